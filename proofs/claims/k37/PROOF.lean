import PyProof.Rows.All
import Wide.All
import OpenK.AllK
import Wide.FinOn
import HandS.ForMost
import HandS.IsInst
import HandS.Wide
import HandS.Walk
import HandS.Flow
import HandS.AnyAll
import HandS.EndTab
import HandS.Deep
import HandS.Style
import HandS.Conv
import HandS.DictTup
import HandS.SortInts
import KE.DataCmp
import KE.SortData
import KE.BitLaws
import KE.DataFind
import PyProof.ReprRoads
import PyProof.Rows.ReprOcc
import HandS.FStr
import HandS.StrMore
import HandS.Exc
import HandS.ExcInit
import HandS.ExcIs
import HandS.ExcField
import HandS.WordsExc
import HandS.ExcValue
import HandS.SetFor
import HandS.RevRange
import HandS.GenList
import HandS.DictComp
import PyProof.SumAny
import HandS.Star
import HandS.WideBits
import KE.KeyNested
import KE.KDictKeyed
import HandS.Strs
import HandS.CallLocal
import HandS.More
import HandS.RaiseFrom
import HandS.SuiteRaise
import HandS.TryOnly
import HandS.Small
import HandS.ExcInitHot
import KE.GoesRaise
import KE.KExcIs
import PySem.Challenge.RW_packwants_k37_shops_as_texts
set_option Elab.async false
set_option linter.all false
set_option maxRecDepth 100000
set_option maxHeartbeats 4000000
namespace Pk
open PySem PySem.Spec PyProof.Rows L2
def topS (i : Nat) : Stmt := PySem.Challenge.pw_packwants_k37_shops_as_texts.main.body.getD i (.Pass ⟨0, 0, 0, 0⟩)
/-! ### heaps and plain data -/
theorem same_upd {H : Hp} {p : Addr} {o : HO} (h : H p = none) : Same H (upd H p o) := fun b x e => by
  rw [upd_ne (ne_of_none e h)]
  exact e
/-- all but a is as it was -/
def SameBut (a : Addr) (H H' : Hp) : Prop := ∀ b o, b ≠ a → H b = some o → H' b = some o
theorem SameBut.of {a : Addr} {H H' : Hp} (h : Same H H') : SameBut a H H' := fun b o _ e => h b o e
theorem SameBut.refl (a : Addr) (H : Hp) : SameBut a H H := fun _ _ _ e => e
theorem SameBut.trans {a : Addr} {H H1 H2 : Hp} (h : SameBut a H H1) (k : SameBut a H1 H2) : SameBut a H H2 := fun b o n e => k b o n (h b o n e)
theorem SameBut.upd {a : Addr} {H : Hp} {o : HO} : SameBut a H (upd H a o) := fun b x n e => by
  rw [upd_ne n]
  exact e
theorem SameBut.new {a p : Addr} {H H' : Hp} {o : HO} (h : SameBut a H H') (hp : H p = none) : SameBut a H (L2.upd H' p o) := fun b x n e => by
  rw [upd_ne (ne_of_none e hp)]
  exact h b x n e
/-- what was not there at the start may change -/
theorem sm_new {p : Addr} {H H' : Hp} {o : HO} (h : Same H H') (hp : H p = none) : Same H (L2.upd H' p o) := fun b x e => by
  rw [upd_ne (ne_of_none e hp)]
  exact h b x e
theorem SameBut.free {a p : Addr} {H H' : Hp} (h : SameBut a H H') (n : H' p = none) (ha : H' a ≠ none) : H p = none := by
  cases q : H p with
  | none => rfl
  | some o =>
    by_cases e : p = a
    · subst e
      exact absurd n ha
    · rw [h p o e q] at n
      cases n
/-- a list of ints -/
abbrev LI (ns : List Int) : HO := .lst (ns.map V.int)
theorem dpAll_ints {K : PySem.W.Frag} {H : Hp} : ∀ ns : List Int, DpAll K H (ns.map V.int) (ns.map PyData.int)
  | [] => .nil
  | n :: r => .cons (.int n) (dpAll_ints r)
theorem dp_ints {K : PySem.W.Frag} {H : Hp} {a : Addr} {ns : List Int} (h : SqL K H a (ns.map V.int)) : Dp K H (.ref a) (.list (ns.map PyData.int)) := .lst h (dpAll_ints ns)
theorem lay_ints : ∀ ns : List Int, PyData.canLayAll0 (ns.map PyData.int) = true
  | [] => by simp [PyData.canLayAll0]
  | n :: r => by
    have ih := lay_ints r
    simp [PyData.canLayAll0, PyData.canLay0, ih]
theorem depth_ints : ∀ ns : List Int, PyData.depthAll (ns.map PyData.int) = 0
  | [] => by simp [PyData.depthAll]
  | n :: r => by
    have ih := depth_ints r
    simp [PyData.depthAll, PyData.depth, ih]
theorem shaped_ints (ns : List Int) : SeqAt.shaped (.list (ns.map PyData.int)) = true := by
  unfold SeqAt.shaped
  have h1 : PyData.canLay0 (.list (ns.map PyData.int)) = true := by
    simp only [PyData.canLay0]
    exact lay_ints ns
  have h2 : PyData.depth (.list (ns.map PyData.int)) ≤ 64 := by
    simp only [PyData.depth]
    rw [depth_ints]
    omega
  rw [h1, decide_eq_true h2]
  rfl
theorem eqvAll_ints : ∀ ns ms : List Int, PyData.eqvAll (ns.map PyData.int) (ms.map PyData.int) = decide (ns = ms)
  | [], [] => by simp [PyData.eqvAll]
  | [], _ :: _ => by simp [PyData.eqvAll]
  | _ :: _, [] => by simp [PyData.eqvAll]
  | n :: r, m :: q => by
    have ih := eqvAll_ints r q
    simp only [List.map_cons, PyData.eqvAll, PyData.eqv, ih]
    by_cases h1 : n = m <;> by_cases h2 : r = q <;> simp [h1, h2]
theorem eqv_ints (ns ms : List Int) : PyData.eqv (.list (ns.map PyData.int)) (.list (ms.map PyData.int)) = decide (ns = ms) := by
  simp only [PyData.eqv]
  exact eqvAll_ints ns ms
theorem li_app (ls : List Int) (n : Int) : HO.lst (ls.map V.int ++ [.int n]) = LI (ls ++ [n]) := by
  show _ = HO.lst ((ls ++ [n]).map V.int)
  rw [List.map_append]
  rfl
theorem li_set (ls : List Int) (j : Nat) (n : Int) : HO.lst ((ls.map V.int).set j (.int n)) = LI (ls.set j n) := by
  show _ = HO.lst ((ls.set j n).map V.int)
  rw [List.map_set]
theorem at_app {H : Hp} {a : Addr} {ls : List Int} {n : Int} : upd H a (.lst (ls.map V.int ++ [.int n])) a = some (LI (ls ++ [n])) := by rw [upd_same, li_app]
theorem at_set {H : Hp} {a : Addr} {ls : List Int} {j : Nat} {n : Int} : upd H a (.lst ((ls.map V.int).set j (.int n))) a = some (LI (ls.set j n)) := by rw [upd_same, li_set]
theorem szL {n : Nat} (h : n ≤ 100000) : n ≤ sizeLine := Nat.le_trans h (by decide)
theorem szL' {n : Nat} (h : n ≤ 100000) : n < sizeLine := Nat.lt_of_le_of_lt h (by decide)
theorem get_ints {ns : List Int} {i : Nat} {n : Int} (h : ns[i]? = some n) : (ns.map V.int)[i]? = some (.int n) := by
  rw [List.getElem?_map, h]
  rfl
theorem getD_ints {ns : List Int} {i : Nat} (h : i < ns.length) : (ns.map V.int)[i]? = some (.int ns[i]) := get_ints (List.getElem?_eq_getElem h)
theorem of_get_ints {ns : List Int} {i : Nat} {v : V} (h : (ns.map V.int)[i]? = some v) : ∃ n, ns[i]? = some n ∧ v = .int n := by
  rw [List.getElem?_map] at h
  cases e : ns[i]? with
  | none => rw [e] at h; cases h
  | some n => rw [e] at h; exact ⟨n, rfl, (Option.some.inj h).symm⟩
/-- i % n as a place -/
theorem mod_at {i : Int} {n : Nat} (h : 0 < n) : ∃ j : Nat, j < n ∧ i % (n : Int) = (j : Int) := by
  have h1 : 0 ≤ i % (n : Int) := Int.emod_nonneg i (by omega)
  have h2 : i % (n : Int) < (n : Int) := Int.emod_lt_of_pos i (by omega)
  exact ⟨(i % (n : Int)).toNat, by omega, by omega⟩
theorem ixN_nat {n j : Nat} (h : j < n) : ixN n (j : Int) = some j := by
  unfold ixN
  rw [if_pos (by omega), if_pos (by omega), Int.toNat_natCast]
theorem take_succ_at {α : Type} {l : List α} {i : Nat} {x : α} (h : l[i]? = some x) : l.take (i + 1) = l.take i ++ [x] := by
  rw [List.take_add_one, h]
  rfl
/-- a def of the top: where it stands -/
structure Def (K : PySem.W.Frag) (mg : Str → Option Value) (x : Str) (st : Stmt) (ps : List Str) (f : Addr) (fd : FuncData) : Prop where
  F : Fun K x x st f fd
  g : mg x = some (.ref f)
  b : Binds K fd ps []
/-! ### rules at a written K (for a comprehension's block) -/
section
variable {X : Cx} {K : PySem.W.Frag}
theorem ix_listK (h : X.K = K) : IxR X (rIxL K) := by subst h; exact ix_list
theorem ix_tupK (h : X.K = K) : IxR X (rIxT K) := by subst h; exact ix_tup
theorem call_len_seqK (h : X.K = K) : CallR X (.builtin "len") (fun xs H Q => ∃ p ys, xs = [.ref p] ∧ (SqL K H p ys ∨ SqT K H p ys) ∧ Q (.int ys.length) H) := by subst h; exact call_len_seq
theorem op_eqDK (h : X.K = K) (hu : X.A.units + 64 < cLine) : OpR X (compareOp .Eq) (rEqD K) := by subst h; exact op_eqD hu
theorem op_neDK (h : X.K = K) (hu : X.A.units + 64 < cLine) : OpR X (compareOp .NotEq) (rNeD K) := by subst h; exact op_neD hu
theorem cr_maxK (h : X.K = K) (hc : X.calm = true) : CallR X (.builtin "max") (rMax K) := by subst h; exact cr_max hc
theorem cr_sumK (h : X.K = K) (hc : X.calm = true) : CallR X (.builtin "sum") (rSum K) := by subst h; exact cr_sum hc
theorem call_list_ofK (h : X.K = K) : CallR X (.type "list") (fun xs H Q => ∃ p ys, xs = [.ref p] ∧ (SqL K H p ys ∨ SqT K H p ys) ∧ ∀ l, H l = none → Q (.ref l) (upd H l (.lst ys))) := by subst h; exact call_list_of
theorem pi_listK {tg l : Expr} {tl : TE} (h : X.K = K) (hl : PE X l tl) : PI X tg l (iList K tl) := by subst h; exact pi_list hl
theorem pi_tupK {tg l : Expr} {tl : TE} (h : X.K = K) (hl : PE X l tl) : PI X tg l (iTup K tl) := by subst h; exact pi_tup hl
theorem pg_tupK {es : List Expr} {k : Nat} {t : TGs} {n : Nat} {pos : Pos} (hK : X.K = K) (hc : X.calm = true) (h : PGs X es t)
    (hn : (assignEach es X.env).length = n := by rfl) (hst : (assignEach es X.env).findIdx? (·.1) = none := by rfl) : PG X (.Tuple es k pos) (gTup K n t) := by subst hK; exact pg_tup hc h hn hst
end
/-! ### a statement whose ends are joined by what holds behind it -/
def tCutI (t u : TS) : TS := fun D σ H => ∃ I : L2.St → Hp → Prop, t { D with nx := I } σ H ∧ ∀ σ' H', I σ' H' → u D σ' H'
theorem pss_cutI {X : Cx} {st : Stmt} {rest : List Stmt} {t u : TS} (h1 : PS X st t) (h2 : PSs X rest u) : PSs X (st :: rest) (tCutI t u) := by
  refine ⟨fun pins s σ H D I h => ?_⟩
  obtain ⟨J, h, hJ⟩ := h
  refine wpAny_execs_cons (thn (h1.run pins s σ H { D with nx := J } I h) fun f s1 q => ?_)
  cases f with
  | next =>
    obtain ⟨σ', H', I', q⟩ := q
    exact h2.run pins s1 σ' H' D I' (hJ σ' H' q)
  | ret v => exact q
  | brk => exact q
  | cont => exact q
/-- data: lists of lists of ints -/
abbrev dRows (rs : List (List Int)) : PyData := .list (rs.map fun r => .list (r.map PyData.int))
theorem lay_rows : ∀ rs : List (List Int), PyData.canLayAll0 (rs.map fun r => .list (r.map PyData.int)) = true
  | [] => by simp [PyData.canLayAll0]
  | r :: q => by
    have ih := lay_rows q
    have h1 := lay_ints r
    simp [PyData.canLayAll0, PyData.canLay0, ih, h1]
theorem depth_rows : ∀ rs : List (List Int), PyData.depthAll (rs.map fun r => .list (r.map PyData.int)) ≤ 1
  | [] => by simp [PyData.depthAll]
  | r :: q => by
    have ih := depth_rows q
    have h1 := depth_ints r
    simp only [List.map_cons, PyData.depthAll, PyData.depth]
    omega
theorem shaped_rows (rs : List (List Int)) : SeqAt.shaped (dRows rs) = true := by
  unfold SeqAt.shaped
  have h1 : PyData.canLay0 (dRows rs) = true := by
    simp only [PyData.canLay0]
    exact lay_rows rs
  have h2 : PyData.depth (dRows rs) ≤ 64 := by
    have := depth_rows rs
    simp only [PyData.depth]
    omega
  rw [h1, decide_eq_true h2]
  rfl
theorem eqv_self {d : PyData} (h : SeqAt.shaped d = true) : PyData.eqv d d = true := SeqAt.eqv_refl d (SeqAt.canLay_of_shaped h)
/-- the built-in names that the top leaves alone, and its constants -/
structure Names (mg : Str → Option Value) : Prop where
  len : mg "len" = none
  range : mg "range" = none
  max : mg "max" = none
  list : mg "list" = none
  isinstance : mg "isinstance" = none
  int : mg "int" = none
  bool : mg "bool" = none
  enumerate : mg "enumerate" = none
  all : mg "all" = none
  zip : mg "zip" = none
  reversed : mg "reversed" = none
  sum : mg "sum" = none
  sorted : mg "sorted" = none
  tuple : mg "tuple" = none
  any : mg "any" = none
  min : mg "min" = none
  str : mg "str" = none
  abs : mg "abs" = none
  set : mg "set" = none
  c_MOST_TIERS : ∃ t, mg "MOST_TIERS" = some (.int 4 t)
  c_MOST_PIECES : ∃ t, mg "MOST_PIECES" = some (.int 12 t)
  c_FIGURES : ∃ t, mg "FIGURES" = some (.str "0123456789" t)
  c_MOST_LESSER : ∃ t, mg "MOST_LESSER" = some (.int 400 t)
  c_THING_FIGURES : ∃ t, mg "THING_FIGURES" = some (.int 1 t)
  c_PLACE_FIGURES : ∃ t, mg "PLACE_FIGURES" = some (.int 2 t)
  c_PRICE_FIGURES : ∃ t, mg "PRICE_FIGURES" = some (.int 12 t)
/-! ### generator expressions whose element is quiet: the def's code table may grow, all else stands -/
/-- what is no bare record is not the table -/
theorem tab_ne {X : Cx} {pins : List (Addr × Obj)} {σ : L2.St} {H1 : Hp} {s1 : Shared} {P : Addr} (I : Inv X pins σ H1 s1) (h : GxR.TabG H1 P) {b : Addr} {o : Obj} (e : s1.heap.get? b = some o) (c : o.cls ≠ .none ∨ ∀ vs, o.data ≠ .fields vs) : b ≠ P := by
  rintro rfl
  obtain ⟨ps, isTab, _⟩ := h
  have q : s1.heap.get? b = some { cls := .none, data := .fields ps } := I.hok b _ isTab
  cases q.symm.trans e
  exact c.elim (fun z => z rfl) (fun z => z _ rfl)
/-- from h2 to h3 the table at P has grown by some entries, and all else stands -/
structure Longer (P : Addr) (h2 h3 : Heap) (ps more : Array Value) : Prop where
  rest : Heap.ExtBut P h2 h3
  size : h2.objs.size ≤ h3.objs.size
  table : h3.get? P = some { cls := .none, data := .fields (ps ++ more) }
  good : TriplesOk (ps ++ more).toList
/-- the expression's own scope: the walked thing at «.0», its names, and captured ones that are cells of the def; for two names -/
structure GenS2 (sc scope : Scope) (xa xb : Str) : Prop where
  kind : scope.kind = .function
  co : scope.isCoroutine = false
  cell : ∀ y ∈ scope.names, y.2 ≠ .cell
  dot : scope.names.lookup (".0" : Str) = some NameKind.local
  la : scope.names.lookup xa = some .local
  lb : scope.names.lookup xb = some .local
  ne : xa ≠ xb
  free : ∀ y ∈ scope.names, y.2 = .free → sc.names.lookup y.1 = some .cell
/-- for one -/
structure GenS1 (sc scope : Scope) (x : Str) : Prop where
  kind : scope.kind = .function
  co : scope.isCoroutine = false
  cell : ∀ y ∈ scope.names, y.2 ≠ .cell
  dot : scope.names.lookup (".0" : Str) = some NameKind.local
  la : scope.names.lookup x = some .local
  free : ∀ y ∈ scope.names, y.2 = .free → sc.names.lookup y.1 = some .cell
/-- what is said of the thing that is walked: it was made in s1, and stands in t -/
structure Walkee (X : Cx) (pins : List (Addr × Obj)) (σ : L2.St) (H1 : Hp) (P : Addr) (fp wr : List Addr) (s1 t : Shared) : Prop where
  inv : Inv X pins σ H1 s1
  tab : GxR.TabG H1 P
  same : ∃ h n, t = { s1 with heap := h, toks := n }
  keep : ∀ b o, s1.heap.get? b = some o → t.heap.get? b = some o
  size : s1.heap.objs.size ≤ t.heap.objs.size
  low : ∀ b ∈ fp, b < t.heap.objs.size ∧ b ≠ P
  new : ∀ b ∈ wr, s1.heap.objs.size ≤ b
/-- the generator g, ready to be walked, in the state s5; F: what each turn hands out -/
def Walked (X : Cx) (pins : List (Addr × Obj)) (σ : L2.St) (H1 : Hp) (P : Addr) (n : Nat) (F : Nat → Value → Prop) (g : Addr) (s5 : Shared) : Prop :=
  ∃ (fp wr : List Addr) (G : Array GenState → Array GenState → Prop) (F' : Nat → Value → Prop) (St : Nat → Shared → Prop),
    WalksS X.prog X.w X.A.in1 g fp wr G n F' St ∧ St 0 s5 ∧ (∀ b ∈ fp, b < s5.heap.objs.size) ∧ (∀ i v, F' i v → F i v) ∧ ∀ s', Moved wr G s5 s' → ∃ H2, GxR.Tabbed P H1 H2 ∧ Inv X pins σ H2 s'
/-- what the element may lean on: the frame cenv, the depth, and a heap in which all that stood in s1 stands but for the table -/
structure Turned (X : Cx) (P : Addr) (sc : Scope) (s1 : Shared) (cenv : Env) (A' : Around) (u : Shared) : Prop where
  own : cenv.scope = sc
  cells : cenv.cells = cloFrom X.env.cells sc.names []
  glob : cenv.globals = mainGlobals
  blt : cenv.builtins = builtinsNs
  calm : A'.handled = none
  deep : A'.depth ≤ X.A.depth + 1
  units : A'.units ≤ X.A.units + 8
  still : ∀ b o, b ≠ P → s1.heap.get? b = some o → u.heap.get? b = some o
section
variable {X : Cx} {pins : List (Addr × Obj)} {σ : L2.St} {H1 : Hp} {s1 t : Shared} {c P : Addr} {fp wr : List Addr} {h2 h3 : Heap} {ps more : Array Value}
/-- the code of the expression is looked up, or laid: then the table is longer -/
theorem tab_opens {gpos : Pos} {q : Str} {scope : Scope} {t2 : Nat} {R : Value → Addr → Shared → Prop} (TB : GxR.TabB X.base X.mg c P) (code : X.env.code = .ref c) (I : Inv X pins σ H1 s1) (isTab : H1 P = some (.tbl ps)) (good : TriplesOk ps.toList)
    (keep : ∀ b o, s1.heap.get? b = some o → h2.get? b = some o) (h : ∀ cv h3 n more, Longer P h2 h3 ps more → R cv builtinsNs { s1 with heap := h3, toks := n }) :
    wpAny (model X.prog X.w) X.A (genexprCode X.env gpos q scope) (fun cv t => wpAny (model X.prog X.w) X.A (builtinsFor X.env.globals X.env.builtins) (fun bi u => R cv bi u) X.xe t) X.xe { s1 with heap := h2, toks := t2 } := by
  have table : h2.get? P = some { cls := .none, data := .fields ps } := keep P _ (I.hok P _ isTab)
  have head : PySem.W.CodeHd h2 c P := TB.code.keeps fun b o e => keep b o (I.bk b o e)
  have go : ∀ cv h3 n more, Longer P h2 h3 ps more → wpAny (model X.prog X.w) X.A (builtinsFor X.env.globals X.env.builtins) (fun bi u => R cv bi u) X.xe { s1 with heap := h3, toks := n } := by
    intro cv h3 n more L
    obtain ⟨at_, ob, given, away, _, notTab, inBase, cls, dict, plain⟩ := TB.bm
    have globals : h3.Ns X.env.globals X.mg := I.ok.glob ▸ ((I.mod.glob.keeps I.bk).keeps keep).extBut L.rest TB.gP
    exact wpAny_builtinsFor globals given away (L.rest _ _ notTab (keep _ _ (I.bk _ _ inBase))) cls dict plain (h cv h3 n more L)
  cases found : codeAmong gpos ps.toList
  · refine wpAny_genexprCodeX code (head.code table good) (head.tab table) found fun c' h' n rest below above isCode _ isTable _ => go _ h' n _ ⟨rest, Nat.le_trans below (Nat.le_of_lt above), isTable.2, ?_⟩
    obtain ⟨_, _, _, _, _, _, _, _, _, _, _, _, _, _, _, _, _, _, _, triples, _⟩ := isCode
    exact triples
  · refine wpAny_genexprCode_hit code (head.code table good) found (go _ h2 t2 #[] ⟨Heap.ExtBut.refl _ _, Nat.le_refl _, ?_, ?_⟩)
    · rw [Array.append_empty]
      exact table
    · rw [Array.append_empty]
      exact good
/-- when it has been walked: what was held is held, but for the longer table -/
theorem tab_closes {h5 : Heap} {n : Nat} {gs : GenState} {j : Nat} {wr' : List Addr} {s' : Shared} (I : Inv X pins σ H1 s1) (isTab : H1 P = some (.tbl ps)) (keep : ∀ b o, s1.heap.get? b = some o → h2.get? b = some o) (L : Longer P h2 h3 ps more)
    (bare : gs.bare = true) (on : ∀ b o, h3.get? b = some o → h5.get? b = some o) (new : ∀ b ∈ wr', s1.heap.objs.size ≤ b) (mv : Moved wr' (GenOnlyQ j) { s1 with heap := h5, gens := s1.gens.push gs, toks := n } s') : ∃ H2, GxR.Tabbed P H1 H2 ∧ Inv X pins σ H2 s' := by
  have old : ∀ {b o}, s1.heap.get? b = some o → b ∉ wr' := fun e z => Nat.lt_irrefl _ (Nat.lt_of_lt_of_le (Heap.lt_size e) (new _ z))
  have J := GxR.inv_tab (h' := s'.heap) (g' := s'.gens) (d' := s'.drawn) (t' := s'.toks) I isTab (fun b o far e => mv.heap b o (old e) (on b o (L.rest b o far (keep b o e)))) (mv.heap P _ (old (I.hok P _ isTab)) (on P _ L.table)) (AllBare.movedS (I.bare.push bare) mv)
  exact ⟨upd H1 P (.tbl (ps ++ more)), ⟨⟨_, upd_same, L.good⟩, fun _ far => upd_ne far⟩, (GxR.sh_eta s1 s' mv.os) ▸ J⟩
theorem Walkee.statics (K : Walkee X pins σ H1 P fp wr s1 t) : cStatics ≠ P ∧ cStatics ∉ wr := by
  obtain ⟨_, names, _⟩ := K.inv.nolimit
  constructor
  · rintro rfl
    obtain ⟨ps, isTab, _⟩ := K.tab
    obtain ⟨ob, _, _, there, isNs, _⟩ := names
    have q : s1.heap.get? cStatics = some { cls := .none, data := .fields ps } := K.inv.hok _ _ isTab
    cases q.symm.trans there
    cases isNs
  · exact fun z => Nat.lt_irrefl _ (Nat.lt_of_lt_of_le names.lt (K.new _ z))
/-- all that stood in s1 stands where an element is reckoned -/
theorem Walkee.turned {scope : Scope} {code : Value} {href : Heap} {A' : Around} {u : Shared} (K : Walkee X pins σ H1 P fp wr s1 t) (L : Longer P t.heap h3 ps more) (on : ∀ b o, h3.get? b = some o → href.get? b = some o) (calm : A'.handled = none) (deep : A'.depth ≤ X.A.depth + 1) (units : A'.units ≤ X.A.units + 8)
    (still : ∀ b ∈ List.range h3.objs.size, b ∉ wr → ∀ o, href.get? b = some o → u.heap.get? b = some o) : Turned X P scope s1 (genEnv scope (cloFrom X.env.cells scope.names []) h3.objs.size code builtinsNs X.env) A' u where
  own := rfl
  cells := rfl
  glob := K.inv.ok.glob
  blt := rfl
  calm := calm
  deep := deep
  units := units
  still := fun b o far e =>
    have e3 := L.rest b o far (K.keep b o e)
    still b (List.mem_range.mpr (Heap.lt_size e3)) (fun z => Nat.lt_irrefl _ (Nat.lt_of_lt_of_le (Heap.lt_size e) (K.new b z))) o (on b o e3)
/-- the made generator is ready -/
theorem Walkee.ready {n : Nat} {F : Nat → Value → Prop} {g : Addr} {h5 : Heap} {n3 n5 : Nat} {gs : GenState} {j : Nat} {wr' fp' : List Addr} {St : Nat → Shared → Prop} (K : Walkee X pins σ H1 P fp wr s1 t) (isTab : H1 P = some (.tbl ps)) (L : Longer P t.heap h3 ps more)
    (bare : gs.bare = true) (above : h3.objs.size < g) (size : h5.objs.size = g + 1) (on : ∀ b o, h3.get? b = some o → h5.get? b = some o) (hf : ∀ b ∈ fp', b = g ∨ b = h3.objs.size ∨ b < h3.objs.size) (hw : ∀ b ∈ wr', b = h3.objs.size ∨ b ∈ wr)
    (W : WalksS X.prog X.w X.A.in4 g fp' wr' (GenOnlyQ j) (passing (fun _ => true) n 0).length (fun j y => ∃ i, (passing (fun _ => true) n 0)[j]? = some i ∧ F i y) St) (st : St 0 { ({ s1 with heap := h3, toks := n3 } : Shared) with gens := s1.gens.push gs, toks := n5, heap := h5 }) :
    Walked X pins σ H1 P n F g { ({ s1 with heap := h3, toks := n3 } : Shared) with gens := s1.gens.push gs, toks := n5, heap := h5 } := by
  rw [GxR.passing_true, List.length_range] at W
  refine ⟨_, _, _, _, _, W.in4_1, st, fun b hb => ?_, fun j y hy => ?_, fun s' mv => tab_closes K.inv isTab K.keep L bare on (fun b hb => ?_) mv⟩
  · show b < h5.objs.size
    rw [size]
    rcases hf b hb with rfl | rfl | z
    · exact Nat.lt_succ_self _
    · exact Nat.lt_succ_of_lt above
    · exact Nat.lt_succ_of_lt (Nat.lt_trans z above)
  · obtain ⟨i, at_, q⟩ := hy
    obtain ⟨_, e⟩ := List.getElem?_eq_some_iff.mp at_
    rw [List.getElem_range] at e
    exact e ▸ q
  · rcases hw b hb with rfl | z
    · exact Nat.le_trans K.size L.size
    · exact K.new b z
end
section
variable {X : Cx} {pins : List (Addr × Obj)} {σ : L2.St} {H : Hp} {s : Shared} {c P : Addr} {k : Nat} {Q' : Value → Shared → Prop}
/-- (element for a, b in iter): what is walked hands out pairs; the element gives what F says -/
theorem gen_pairs {elt iter : Expr} {xa xb : Str} {pa pb pt gpos : Pos} {kt : Nat} {scope : Scope} (hr : Room k X.A) (TB : GxR.TabB X.base X.mg c P) (hcode : X.env.code = .ref c) (S : GenS2 X.env.scope scope xa xb) (hs : ∀ v, genFold iter X.env v = pure v) (I : Inv X pins σ H s)
    (h : wpAny (model X.prog X.w) X.A (eval iter X.env) (fun xv t => wpAny (model X.prog X.w) X.A (pyIter xv) (fun it t2 => ∃ (Iad : Addr) (fp wr : List Addr) (n : Nat) (Pt : Nat → Array Value → Prop) (St : Nat → Heap → Prop) (Mid : Nat → Addr → Heap → Prop) (F : Nat → Value → Prop) (q : List (Addr × Obj)) (σ1 : L2.St) (H1 : Hp) (s1 : Shared),
      it = .ref Iad ∧ Walkee X q σ1 H1 P fp wr s1 t2 ∧ (∀ A' : Around, A'.handled = none → WalksU X.prog X.w A' Iad fp wr n Pt St Mid) ∧ (∀ i vals, Pt i vals → ∃ va vb, vals = #[va, vb]) ∧ St 0 t2.heap ∧
      (∀ (cenv : Env) (A' : Around) (E' : Value → Shared → Prop) (i : Nat) (va vb : Value) (u : Shared) (m : Str → Option Value), Turned X P scope s1 cenv A' u → Pt i #[va, vb] → u.heap.Ns cenv.locals m → m xa = some va → m xb = some vb →
        wpAny (model X.prog X.w) A' (eval elt cenv) (fun y u' => F i y ∧ Keeps u u') E' u) ∧
      ∀ g s5, Walked X q σ1 H1 P n F g s5 → Q' (.ref g) s5) X.xe t) X.xe s) :
    wpAny (model X.prog X.w) X.A (eval (.GeneratorExp elt [⟨.Tuple [.Name xa pa, .Name xb pb] kt pt, iter, [], 0⟩] scope gpos) X.env) Q' X.xe s := by
  have room := hr.dp
  refine wpAny_GeneratorExp_walksQTD hr.hd S.co (closure_ok fun y hy e => I.ok.has y.1 (.inl (S.free y hy e))) S.cell S.dot S.la S.lb S.ne S.kind (by omega) (wpAny_mono h (fun xv t h => wpAny_mono h (fun it t2 h => ?_) fun _ _ e => e) fun _ _ e => e) hs
  obtain ⟨Iad, fp, wr, n, Pt, St, Mid, F, q, σ1, H1, s1, rfl, K, W, two, st, turn, out⟩ := h
  obtain ⟨ps, isTab, good⟩ := K.tab
  obtain ⟨h2, n2, rfl⟩ := K.same
  have lim : h2.NoLimit := K.inv.nolimit.keeps K.keep
  refine ⟨lim, tab_opens TB hcode K.inv isTab good K.keep fun cv h3 n3 more L => ⟨Iad, fp, wr, n, Pt, St, Mid, fun _ => true, F, rfl, W, two, (W X.A hr.hd).frame _ _ _ st fun b hb o e => L.rest b o (K.low b hb).2 e, fun b hb => Nat.lt_of_lt_of_le (K.low b hb).1 L.size, lim.extBut L.rest K.statics.1, K.statics.2, fun href on => ⟨?_, ?_⟩, ?_⟩⟩
  · intro A' E' i va vb u m _ _ _ _ _ _ _ _
    exact wpAny_pure ⟨rfl, GxR.keeps_refl _⟩
  · intro A' E' i va vb u m calm deep units at_ _ ns ma mb still
    exact turn _ A' E' i va vb u m (K.turned L on calm deep units still) at_ ns ma mb
  · intro g h5 n5 gs bare above size on W5 st5
    refine out g _ (K.ready isTab L bare above size on (fun b hb => ?_) (fun b hb => List.mem_cons.mp hb) W5 st5)
    exact (List.mem_cons.mp hb).imp_right fun z => (List.mem_cons.mp z).imp_right List.mem_range.mp
/-- (element for a in iter) -/
theorem gen_ones {elt iter : Expr} {x : Str} {px gpos : Pos} {scope : Scope} (hr : Room k X.A) (TB : GxR.TabB X.base X.mg c P) (hcode : X.env.code = .ref c) (S : GenS1 X.env.scope scope x) (hs : ∀ v, genFold iter X.env v = pure v) (I : Inv X pins σ H s)
    (h : wpAny (model X.prog X.w) X.A (eval iter X.env) (fun xv t => wpAny (model X.prog X.w) X.A (pyIter xv) (fun it t2 => ∃ (Iad : Addr) (fp wr : List Addr) (n : Nat) (Pt : Nat → Value → Prop) (St : Nat → Heap → Prop) (F : Nat → Value → Prop) (q : List (Addr × Obj)) (σ1 : L2.St) (H1 : Hp) (s1 : Shared),
      it = .ref Iad ∧ Walkee X q σ1 H1 P fp wr s1 t2 ∧ (∀ A' : Around, A'.handled = none → Walks X.prog X.w A' Iad fp wr n Pt St) ∧ St 0 t2.heap ∧
      (∀ (cenv : Env) (A' : Around) (E' : Value → Shared → Prop) (i : Nat) (va : Value) (u : Shared) (m : Str → Option Value), Turned X P scope s1 cenv A' u → Pt i va → u.heap.Ns cenv.locals m → m x = some va →
        wpAny (model X.prog X.w) A' (eval elt cenv) (fun y u' => F i y ∧ Keeps u u') E' u) ∧
      ∀ g s5, Walked X q σ1 H1 P n F g s5 → Q' (.ref g) s5) X.xe t) X.xe s) :
    wpAny (model X.prog X.w) X.A (eval (.GeneratorExp elt [⟨.Name x px, iter, [], 0⟩] scope gpos) X.env) Q' X.xe s := by
  have room := hr.dp
  refine wpAny_GeneratorExp_walksQD hr.hd S.co (closure_ok fun y hy e => I.ok.has y.1 (.inl (S.free y hy e))) S.cell S.dot S.la S.kind (by omega) (wpAny_mono h (fun xv t h => wpAny_mono h (fun it t2 h => ?_) fun _ _ e => e) fun _ _ e => e) hs
  obtain ⟨Iad, fp, wr, n, Pt, St, F, q, σ1, H1, s1, rfl, K, W, st, turn, out⟩ := h
  obtain ⟨ps, isTab, good⟩ := K.tab
  obtain ⟨h2, n2, rfl⟩ := K.same
  have lim : h2.NoLimit := K.inv.nolimit.keeps K.keep
  refine ⟨lim, tab_opens TB hcode K.inv isTab good K.keep fun cv h3 n3 more L => ⟨Iad, fp, wr, n, Pt, St, fun _ => true, F, rfl, W, (W X.A hr.hd).frame _ _ _ st fun b hb o e => L.rest b o (K.low b hb).2 e, fun b hb => Nat.lt_of_lt_of_le (K.low b hb).1 L.size, lim.extBut L.rest K.statics.1, K.statics.2, fun href on => ⟨?_, ?_⟩, ?_⟩⟩
  · intro A' E' i va u m _ _ _ _ _ _ _
    exact wpAny_pure ⟨rfl, GxR.keeps_refl _⟩
  · intro A' E' i va u m calm deep units at_ _ ns ma still
    exact turn _ A' E' i va u m (K.turned L on calm deep units still) at_ ns ma
  · intro g h5 n5 gs bare above size on W5 st5
    refine out g _ (K.ready isTab L bare above size on (fun b hb => ?_) (fun b hb => List.mem_cons.mp hb) W5 st5)
    exact (List.mem_cons.mp hb).imp_right fun z => (List.mem_cons.mp z).imp_right List.mem_range.mp
/-- a built-in function of a generator expression alone -/
theorem call_gen {b : Str} {f : String} {ge : Expr} {p pos : Pos} {R : Value → Shared → Prop} (hg : Gl X b) (hm : X.mg b = none) (hb : bootBuiltins b = some (.builtin f)) (he : starEach [ge] X.env = (false, eval ge X.env) :: starEach [] X.env) (I : Inv X pins σ H s)
    (h : wpAny (model X.prog X.w) X.A (eval ge X.env) (fun v t => wpAny (model X.prog X.w) X.A (call (.builtin f) [v]) R X.xe t) X.xe s) (hd : (b == ("__debug__" : Str)) = false := by decide) (hn : b ≠ "__name__" := by decide) :
    wpAny (model X.prog X.w) X.A (eval (.Call (.Name b p) [ge] [] pos) X.env) R X.xe s := by
  refine wpAny_Call_Name_kw (ld_blt I hg hm hb (PyProof.Rows.callWith_builtin1 ?_ he (by rfl)) hn hd)
  rw [he]
  exact Calls.spliced_cons (wpAny_mono h (fun v t h => Calls.spliced_nil h) fun _ _ e => e)
theorem truth_of {A : Around} {F' : Nat → Value → Prop} {pb : Nat → Bool} (h : ∀ i v, F' i v → v = .bool (pb i)) : TruthOf X.prog X.w A F' pb := by
  intro i v t Q E at_ q
  cases h i v at_
  exact wpAny_truthy_bool q
end
/-! ### all(test for a, b in enumerate(list)) -/
def tAllE (K : PySem.W.Frag) (P : Addr) (R : L2.St → Hp → List V → (Nat → Bool) → Prop) (te : TE) : TE := fun σ H Q => te σ H fun v H1 => ∃ (a : Addr) (xs : List V) (pb : Nat → Bool), v = .ref a ∧ SqL K H1 a xs ∧ GxR.TabG H1 P ∧ R σ H1 xs pb ∧
  ∀ H2, GxR.Tabbed P H1 H2 → Q (.bl ((List.range xs.length).all pb)) H2
/-- what the element is to do at one pair -/
def EltE (X : Cx) (P : Addr) (scope : Scope) (xa xb : Str) (elt : Expr) (R : L2.St → Hp → List V → (Nat → Bool) → Prop) : Prop :=
  ∀ (pins : List (Addr × Obj)) (σ : L2.St) (H1 : Hp) (s1 : Shared) (xs : List V) (pb : Nat → Bool), Inv X pins σ H1 s1 → GxR.TabG H1 P → R σ H1 xs pb →
    ∀ (cenv : Env) (A' : Around) (E' : Value → Shared → Prop) (i : Nat) (v : V) (va vb : Value) (s₂ : Shared) (m₂ : Str → Option Value), cenv.scope = scope → cenv.cells = cloFrom X.env.cells scope.names [] → cenv.globals = mainGlobals → cenv.builtins = builtinsNs →
      A'.handled = none → A'.depth ≤ X.A.depth + 1 → A'.units ≤ X.A.units + 8 → xs[i]? = some v → (∃ t, va = .int (i : Nat) t) → RelV v vb → s₂.heap.Ns cenv.locals m₂ → m₂ xa = some va → m₂ xb = some vb → (∀ b o, b ≠ P → s1.heap.get? b = some o → s₂.heap.get? b = some o) →
      wpAny (model X.prog X.w) A' (eval elt cenv) (fun y s₃ => y = .bool (pb i) ∧ Keeps s₂ s₃) E' s₂
section
variable {X : Cx}
theorem pe_allEnum {c P : Addr} {elt e : Expr} {xa xb : Str} {pa pb' pt p pos gpos epos ep : Pos} {kt : Nat} {scope : Scope} {te : TE} {k : Nat} {R : L2.St → Hp → List V → (Nat → Bool) → Prop}
    (hr : Room k X.A) (hg : Gl X "all") (hm : X.mg "all" = none) (hb : bootBuiltins "all" = some (.builtin "all")) (hge : Gl X "enumerate") (hme : X.mg "enumerate" = none) (TB : GxR.TabB X.base X.mg c P) (hcode : X.env.code = .ref c) (S : GenS2 X.env.scope scope xa xb) (hi : PE X e te)
    (hel : EltE X P scope xa xb elt R)
    (hs : ∀ v, genFold (.Call (.Name "enumerate" ep) [e] [] epos) X.env v = pure v := by intro _; rfl)
    (hs1 : starEach [e] X.env = [(false, eval e X.env)] := by rfl)
    (he : starEach [.GeneratorExp elt [⟨.Tuple [.Name xa pa, .Name xb pb'] kt pt, .Call (.Name "enumerate" ep) [e] [] epos, [], 0⟩] scope gpos] X.env = (false, eval (.GeneratorExp elt [⟨.Tuple [.Name xa pa, .Name xb pb'] kt pt, .Call (.Name "enumerate" ep) [e] [] epos, [], 0⟩] scope gpos) X.env) :: starEach [] X.env := by rfl) :
    PE X (.Call (.Name "all" p) [.GeneratorExp elt [⟨.Tuple [.Name xa pa, .Name xb pb'] kt pt, .Call (.Name "enumerate" ep) [e] [] epos, [], 0⟩] scope gpos] [] pos) (tAllE X.K P R te) := by
  refine ⟨fun pins s σ H Q I h => call_gen hg hm hb he I (gen_pairs hr TB hcode S hs I (Call_ (ld_blt I hge hme boot_enumerate (PyProof.Rows.callWith_type1 ?_ hs1 rfl))))⟩
  rw [hs1]
  refine Calls.spliced_cons (thn (hi.run pins s σ H _ I h) fun u0 s1 r => Calls.spliced_nil ?_)
  obtain ⟨_, H1, J, isRef, a, xs, pb, rfl, sq, tab, hR, q⟩ := r
  cases isRef
  obtain ⟨its, rv, at_, _⟩ := J.list sq
  refine call_enumerate_list at_.isList fun h' isEn isIt size keep => wpAny_pyIter_enum isEn ?_
  have la : a < s1.heap.objs.size := at_.lt
  have below : s1.heap.objs.size < h'.objs.size := isIt.elim fun _ x => Heap.lt_size x.1
  obtain ⟨oa, ea, ca, _⟩ := id at_.isList
  have aP : a ≠ P := tab_ne J tab ea (.inl fun z => by rw [ca] at z; cases z)
  have lP : P < s1.heap.objs.size := tab.elim fun _ x => Heap.lt_size (show s1.heap.get? P = _ from J.hok P _ x.1)
  have W := fun (A' : Around) (calm : A'.handled = none) => (WalksT.enumerate (prog := X.prog) (w := X.w) calm (s1.heap.objs.size + 1) s1.heap.objs.size a (Nat.succ_ne_self _) (Nat.ne_of_lt (Nat.lt_succ_of_lt la)) (Nat.ne_of_lt la) its.toArray).toU
  refine ⟨_, _, _, _, _, _, _, fun i y => y = .bool (pb i), pins, σ, H1, s1, rfl, ⟨J, tab, ⟨_, _, rfl⟩, keep, Nat.le_of_lt below, fun b hb => ?_, fun b hb => ?_⟩, W, fun i vals x => ?_, ⟨⟨_, isEn⟩, isIt, at_.isList.at fun o x => keep a o x⟩, ?_, ?_⟩
  · simp only [List.mem_cons, List.not_mem_nil, or_false] at hb
    rcases hb with rfl | rfl | rfl
    · exact ⟨Heap.lt_size isEn, Nat.ne_of_gt (Nat.lt_succ_of_lt lP)⟩
    · exact ⟨below, Nat.ne_of_gt lP⟩
    · exact ⟨Nat.lt_trans la below, aP⟩
  · simp only [List.mem_cons, List.not_mem_nil, or_false] at hb
    rcases hb with rfl | rfl
    · exact Nat.le_succ _
    · exact Nat.le_refl _
  · exact x.elim fun _ x => x.elim fun _ x => ⟨_, _, x.2⟩
  · intro cenv A' E' i va vb u m T at_ ns ma mb
    obtain ⟨t, x, hx, e'⟩ := at_
    obtain ⟨rfl, rfl⟩ : va = .int i t ∧ vb = x := by simpa using congrArg Array.toList e'
    have there : its[i]? = some vb := by simpa using hx
    obtain ⟨v, hv⟩ : ∃ v, xs[i]? = some v := ⟨_, List.getElem?_eq_getElem (rv.length.symm ▸ (List.getElem?_eq_some_iff.mp there).1)⟩
    obtain ⟨w, hw, rw_⟩ := rv.get hv
    cases there.symm.trans hw
    exact hel pins σ H1 s1 xs pb J tab hR cenv A' E' i v _ _ u m T.own T.cells T.glob T.blt T.calm T.deep T.units hv ⟨t, rfl⟩ rw_ ns ma mb T.still
  · rintro g s5 ⟨fp, wr, G, F', St, W, st, _, say, held⟩
    refine call_all_walkS (W.self 0 _ _ _ st ⟨g, fp, wr, G, _, F', St, pb, rfl, W, st, truth_of say, fun s' mv => ?_⟩)
    obtain ⟨H2, grown, J2⟩ := held s' mv
    refine ⟨.bl _, H2, J2, rfl, ?_⟩
    rw [List.size_toArray, ← rv.length]
    exact q H2 grown
end
/-! ### (element for a, b in zip(list, list)), both lists of ints -/
section
variable {X : Cx} {pins : List (Addr × Obj)} {σ : L2.St} {H : Hp} {s : Shared}
theorem gen_zip {c P : Addr} {elt e1 e2 : Expr} {xa xb : Str} {pa pb pt gpos epos ep : Pos} {kt k : Nat} {scope : Scope} {t1 t2 : TE} {C : List Int → List Int → Hp → Prop} {F : List Int → List Int → Nat → Value → Prop} {Q' : Value → Shared → Prop}
    (hr : Room k X.A) (hge : Gl X "zip") (hme : X.mg "zip" = none) (TB : GxR.TabB X.base X.mg c P) (hcode : X.env.code = .ref c) (S : GenS2 X.env.scope scope xa xb) (h1 : PE X e1 t1) (h2 : PE X e2 t2)
    (hs : ∀ v, genFold (.Call (.Name "zip" ep) [e1, e2] [] epos) X.env v = pure v) (hs1 : starEach [e1, e2] X.env = (false, eval e1 X.env) :: starEach [e2] X.env) (hs2 : starEach [e2] X.env = (false, eval e2 X.env) :: starEach [] X.env)
    (hpl : (backTo epos (starEach [e2] X.env)).any (·.1) = false) (hem : starEach [] X.env = []) (I : Inv X pins σ H s)
    (h : t1 σ H fun v H1 => t2 σ H1 fun u H2 => ∃ (a b : Addr) (ns ms : List Int), v = .ref a ∧ u = .ref b ∧ SqL X.K H2 a (ns.map V.int) ∧ SqL X.K H2 b (ms.map V.int) ∧ GxR.TabG H2 P ∧ C ns ms H2)
    (turn : ∀ ns ms H2, C ns ms H2 → ∀ (cenv : Env) (A' : Around) (E' : Value → Shared → Prop) (i : Nat) (u : Shared) (m : Str → Option Value) (li : i < ns.length) (lj : i < ms.length) (t t' : Tok), cenv.scope = scope → u.heap.Ns cenv.locals m → m xa = some (.int ns[i] t) → m xb = some (.int ms[i] t') →
      wpAny (model X.prog X.w) A' (eval elt cenv) (fun y u' => F ns ms i y ∧ Keeps u u') E' u)
    (out : ∀ ns ms H2 g s5, C ns ms H2 → Walked X pins σ H2 P (min ns.length ms.length) (F ns ms) g s5 → Q' (.ref g) s5) :
    wpAny (model X.prog X.w) X.A (eval (.GeneratorExp elt [⟨.Tuple [.Name xa pa, .Name xb pb] kt pt, .Call (.Name "zip" ep) [e1, e2] [] epos, [], 0⟩] scope gpos) X.env) Q' X.xe s := by
  refine gen_pairs hr TB hcode S hs I (Call_ (ld_blt I hge hme PyProof.Rows.boot_zip (PyProof.Rows.callWith_type1 ?_ hs1 hpl)))
  rw [hs1, hs2, hem]
  refine Calls.spliced_cons (thn (h1.run pins s σ H _ I h) fun u0 s0 r0 => ?_)
  obtain ⟨v0, H0, J0, isA, q0⟩ := r0
  refine Calls.spliced_cons (thn (h2.run pins s0 σ H0 _ J0 q0) fun u1 s1 r1 => Calls.spliced_nil ?_)
  obtain ⟨v1, H1, J, isB, a, b, ns, ms, rfl, rfl, sqa, sqb, tab, hC⟩ := r1
  cases isA
  cases isB
  obtain ⟨its, rv, atA, _⟩ := J.list sqa
  obtain ⟨jts, rw_, atB, _⟩ := J.list sqb
  have lenA : ns.length = its.length := List.length_map (f := V.int) ▸ rv.length
  have lenB : ms.length = jts.length := List.length_map (f := V.int) ▸ rw_.length
  obtain ⟨oa, ea, ca, _⟩ := id atA.isList
  obtain ⟨ob, eb, cb, _⟩ := id atB.isList
  have aP : a ≠ P := tab_ne J tab ea (.inl fun z => by rw [ca] at z; cases z)
  have bP : b ≠ P := tab_ne J tab eb (.inl fun z => by rw [cb] at z; cases z)
  have lP : P < s1.heap.objs.size := tab.elim fun _ x => Heap.lt_size (show s1.heap.get? P = _ from J.hok P _ x.1)
  refine call_zip_2 atA.isList atB.isList fun h' isZ isT isO itA itB size keep => wpAny_pyIter_zip isZ ?_
  have up : ∀ j, j < 5 → s1.heap.objs.size + j < h'.objs.size ∧ s1.heap.objs.size + j ≠ P := fun j lj => ⟨size ▸ Nat.add_lt_add_left lj _, Nat.ne_of_gt (Nat.lt_of_lt_of_le lP (Nat.le_add_right _ j))⟩
  have W := fun (A' : Around) (calm : A'.handled = none) => (WalksT.zip2 (prog := X.prog) (w := X.w) calm (s1.heap.objs.size + 4) (s1.heap.objs.size + 2) (s1.heap.objs.size + 3) s1.heap.objs.size (s1.heap.objs.size + 1) a b (PySem.W.ktu_apart s1.heap.objs.size a b atA.lt atB.lt) its.toArray jts.toArray).toU
  have grown : s1.heap.objs.size ≤ h'.objs.size := Nat.le_of_lt (up 0 (by decide)).1
  refine ⟨_, _, _, _, _, _, _, F ns ms, pins, σ, H1, s1, rfl, ⟨J, tab, ⟨_, _, rfl⟩, keep, grown, fun d hd => ?_, fun d hd => ?_⟩, W, fun i vals x => ?_, ⟨isZ, isT, ⟨_, _, isO⟩, itA, itB, atA.isList.at fun o x => keep a o x, atB.isList.at fun o x => keep b o x⟩, ?_, ?_⟩
  · simp only [List.mem_cons, List.not_mem_nil, or_false] at hd
    rcases hd with rfl | rfl | rfl | rfl | rfl | rfl | rfl
    · exact up 4 (by decide)
    · exact up 2 (by decide)
    · exact up 3 (by decide)
    · exact up 0 (by decide)
    · exact up 1 (by decide)
    · exact ⟨Nat.lt_of_lt_of_le atA.lt grown, aP⟩
    · exact ⟨Nat.lt_of_lt_of_le atB.lt grown, bP⟩
  · simp only [List.mem_cons, List.not_mem_nil, or_false] at hd
    rcases hd with rfl | rfl | rfl | rfl
    · exact Nat.le_add_right _ _
    · exact Nat.le_add_right _ _
    · exact Nat.le_refl _
    · exact Nat.le_add_right _ _
  · exact x.elim fun _ x => x.elim fun _ x => ⟨_, _, x.2.2⟩
  · intro cenv A' E' i va vb u m T at_ nsm ma mb
    obtain ⟨x, y, hx, hy, e'⟩ := at_
    obtain ⟨rfl, rfl⟩ : va = x ∧ vb = y := by simpa using congrArg Array.toList e'
    have inA : its[i]? = some va := by simpa using hx
    have inB : jts[i]? = some vb := by simpa using hy
    have li : i < ns.length := lenA ▸ (List.getElem?_eq_some_iff.mp inA).1
    have lj : i < ms.length := lenB ▸ (List.getElem?_eq_some_iff.mp inB).1
    obtain ⟨w, hw, t, rfl⟩ := rv.get (getD_ints li)
    obtain ⟨w', hw', t', rfl⟩ := rw_.get (getD_ints lj)
    cases inA.symm.trans hw
    cases inB.symm.trans hw'
    exact turn ns ms H1 hC cenv A' E' i u m li lj t t' T.own nsm ma mb
  · intro g s5 x
    rw [List.size_toArray, List.size_toArray, ← lenA, ← lenB] at x
    exact out ns ms H1 g s5 hC x
/-- both names of such an expression are read from its frame -/
theorem read_two {sc scope : Scope} {cenv : Env} {A' : Around} {E' : Value → Shared → Prop} {u : Shared} {m : Str → Option Value} {xa xb : Str} {va vb : Value} {p q : Pos} {M : Model} (S : GenS2 sc scope xa xb) (own : cenv.scope = scope) (ns : u.heap.Ns cenv.locals m) (ma : m xa = some va) (mb : m xb = some vb)
    (hda : (xa == ("__debug__" : Str)) = false) (hdb : (xb == ("__debug__" : Str)) = false) :
    (∀ {Q : Value → Shared → Prop}, Q va u → wpAny M A' (eval (.Name xa p) cenv) Q E' u) ∧ ∀ {Q : Value → Shared → Prop}, Q vb u → wpAny M A' (eval (.Name xb q) cenv) Q E' u := by
  subst own
  exact ⟨fun h => wpAny_Name (wpAny_loadName_local S.kind S.la ns ma h) hda, fun h => wpAny_Name (wpAny_loadName_local S.kind S.lb ns mb h) hdb⟩
theorem at_getD {ns : List Int} {i : Nat} (li : i < ns.length) : ns.getD i 0 = ns[i] := by
  rw [List.getD_eq_getElem?_getD, List.getElem?_eq_getElem li]
  rfl
end
/-! ### all(a < b for a, b in zip(list, list)) -/
def tAllZ (K : PySem.W.Frag) (P : Addr) (t1 t2 : TE) : TE := fun σ H Q => t1 σ H fun v H1 => t2 σ H1 fun u H2 => ∃ (a b : Addr) (ns ms : List Int), v = .ref a ∧ u = .ref b ∧ SqL K H2 a (ns.map V.int) ∧ SqL K H2 b (ms.map V.int) ∧ GxR.TabG H2 P ∧
  ∀ H3, GxR.Tabbed P H2 H3 → Q (.bl ((List.range (min ns.length ms.length)).all fun i => decide (ns.getD i 0 < ms.getD i 0))) H3
section
variable {X : Cx}
theorem pe_allZip {c P : Addr} {e1 e2 : Expr} {xa xb : Str} {pa pb' pt p pos gpos epos ep q1 q2 q3 : Pos} {kt : Nat} {scope : Scope} {t1 t2 : TE} {k : Nat}
    (hr : Room k X.A) (hg : Gl X "all") (hm : X.mg "all" = none) (hb : bootBuiltins "all" = some (.builtin "all")) (hge : Gl X "zip") (hme : X.mg "zip" = none) (TB : GxR.TabB X.base X.mg c P) (hcode : X.env.code = .ref c) (S : GenS2 X.env.scope scope xa xb) (h1 : PE X e1 t1) (h2 : PE X e2 t2)
    (hda : (xa == ("__debug__" : Str)) = false) (hdb : (xb == ("__debug__" : Str)) = false)
    (hs : ∀ v, genFold (.Call (.Name "zip" ep) [e1, e2] [] epos) X.env v = pure v := by intro _; rfl)
    (hs1 : starEach [e1, e2] X.env = (false, eval e1 X.env) :: starEach [e2] X.env := by rfl) (hs2 : starEach [e2] X.env = (false, eval e2 X.env) :: starEach [] X.env := by rfl) (hpl : (backTo epos (starEach [e2] X.env)).any (·.1) = false := by rfl)
    (he : starEach [.GeneratorExp (.Compare (.Name xa q1) [.Lt] [.Name xb q2] q3) [⟨.Tuple [.Name xa pa, .Name xb pb'] kt pt, .Call (.Name "zip" ep) [e1, e2] [] epos, [], 0⟩] scope gpos] X.env = (false, eval (.GeneratorExp (.Compare (.Name xa q1) [.Lt] [.Name xb q2] q3) [⟨.Tuple [.Name xa pa, .Name xb pb'] kt pt, .Call (.Name "zip" ep) [e1, e2] [] epos, [], 0⟩] scope gpos) X.env) :: starEach [] X.env := by rfl) :
    PE X (.Call (.Name "all" p) [.GeneratorExp (.Compare (.Name xa q1) [.Lt] [.Name xb q2] q3) [⟨.Tuple [.Name xa pa, .Name xb pb'] kt pt, .Call (.Name "zip" ep) [e1, e2] [] epos, [], 0⟩] scope gpos] [] pos) (tAllZ X.K P t1 t2) := by
  refine ⟨fun pins s σ H Q I h => call_gen hg hm hb he I (gen_zip (C := fun ns ms H2 => ∀ H3, GxR.Tabbed P H2 H3 → Q (.bl ((List.range (min ns.length ms.length)).all fun i => decide (ns.getD i 0 < ms.getD i 0))) H3) (F := fun ns ms i y => y = .bool (decide (ns.getD i 0 < ms.getD i 0)))
    hr hge hme TB hcode S h1 h2 hs hs1 hs2 hpl (by rfl) I h ?_ ?_)⟩
  · intro ns ms H2 _ cenv A' E' i u m li lj t t' own nsm ma mb
    have two := read_two (M := model X.prog X.w) (A' := A') (E' := E') (p := q1) (q := q2) S own nsm ma mb hda hdb
    refine wpAny_Compare1 (two.1 (two.2 (lt_int ⟨?_, GxR.keeps_refl _⟩))) (nomark _)
    rw [at_getD li, at_getD lj]
  · rintro ns ms H2 g s5 q ⟨fp, wr, G, F', St, W, st, _, say, held⟩
    refine call_all_walkS (W.self 0 _ _ _ st ⟨g, fp, wr, G, _, F', St, _, rfl, W, st, truth_of say, fun s' mv => ?_⟩)
    obtain ⟨H3, grown, J⟩ := held s' mv
    exact ⟨.bl _, H3, J, rfl, q H3 grown⟩
end
/-! ### all(test for x in text): a generator expression over signs -/
abbrev GenSB := GenS1
/-- all(x in y for x in e), e a text, y a text of slot i -/
def tAllIn (P : Addr) (i : Nat) (te : TE) : TE := fun σ H Q => te σ H fun v H1 => ∃ a z : Str, v = .str a ∧ σ[i]? = some (some (.str z)) ∧ GxR.TabG H1 P ∧
  ∀ H2, GxR.Tabbed P H1 H2 → Q (.bl (a.cps.toList.all fun c => decide (c ∈ z.cps.toList))) H2
section
variable {X : Cx}
theorem pe_allIn {c P : Addr} {e : Expr} {x y : Str} {i : Nat} {px p pos gpos q1 q2 q3 : Pos} {scope : Scope} {te : TE} {k : Nat}
    (hr : Room k X.A) (hg : Gl X "all") (hm : X.mg "all" = none) (hb : bootBuiltins "all" = some (.builtin "all")) (TB : GxR.TabB X.base X.mg c P) (hcode : X.env.code = .ref c) (S : GenSB X.env.scope scope x) (hi : PE X e te)
    (hN : X.N[i]? = some y) (hy1 : X.env.scope.names.lookup y = some .cell) (hy2 : scope.names.lookup y = some .free) (hcl : ∀ cc, X.env.cells.lookup y = some cc → (cloFrom X.env.cells scope.names []).lookup y = some cc)
    (hda : (x == ("__debug__" : Str)) = false) (hdb : (y == ("__debug__" : Str)) = false) (hdc : (y == ("__classdict__" : Str)) = false)
    (hs : ∀ v, genFold e X.env v = pure v := by intro _; rfl)
    (he : starEach [.GeneratorExp (.Compare (.Name x q1) [.In] [.Name y q2] q3) [⟨.Name x px, e, [], 0⟩] scope gpos] X.env = (false, eval (.GeneratorExp (.Compare (.Name x q1) [.In] [.Name y q2] q3) [⟨.Name x px, e, [], 0⟩] scope gpos) X.env) :: starEach [] X.env := by rfl) :
    PE X (.Call (.Name "all" p) [.GeneratorExp (.Compare (.Name x q1) [.In] [.Name y q2] q3) [⟨.Name x px, e, [], 0⟩] scope gpos] [] pos) (tAllIn P i te) := by
  refine ⟨fun pins s σ H Q I h => call_gen hg hm hb he I (gen_ones hr TB hcode S hs I (thn (hi.run pins s σ H _ I h) fun u0 s1 r => ?_))⟩
  obtain ⟨_, H1, J, isText, a, z, rfl, slot, tab, q⟩ := r
  obtain ⟨t, rfl⟩ := isText
  have lP : P < s1.heap.objs.size := tab.elim fun _ x => Heap.lt_size (show s1.heap.get? P = _ from J.hok P _ x.1)
  -- the captured text's cell
  obtain ⟨tz, cc, isCell, there⟩ : ∃ tz cc, X.env.cells.lookup y = some cc ∧ s1.heap.IsCell cc (some (.str z tz)) := by
    obtain ⟨_, _, seen⟩ := J.loc
    obtain ⟨u, ⟨tz, rfl⟩, plain | cell⟩ := seen i y _ hN slot (.inr (.inl hy1))
    · have no : X.env.scope.names.lookup y = some .local := plain.1
      rw [hy1] at no
      cases no
    · obtain ⟨_, cc, isCell, there⟩ := cell
      exact ⟨tz, cc, isCell, there⟩
  obtain ⟨oc, at_, isText⟩ := id there
  have cP : cc ≠ P := tab_ne J tab at_ (.inr fun vs z => by rw [isText] at z; cases z)
  refine wpAny_pyIter_str fun o St W st => ?_
  refine ⟨_, _, _, _, _, _, fun j v => v = .bool (GxR.trF (fun c => decide (c ∈ z.cps.toList)) a.cps.toList j), pins, σ, H1, s1, rfl, ⟨J, tab, ⟨_, s1.toks, rfl⟩, fun b u e => Heap.get?_push_of_some _ e, by rw [Heap.size_push]; exact Nat.le_succ _, fun b hb => ?_, fun b hb => ?_⟩, W, st, ?_, ?_⟩
  · rw [List.mem_singleton.mp hb, Heap.size_push]
    exact ⟨Nat.lt_succ_self _, Nat.ne_of_gt lP⟩
  · exact Nat.le_of_eq (List.mem_singleton.mp hb).symm
  · intro cenv A' E' j va u m T at2 ns ma
    obtain ⟨ch, tc, hch, rfl⟩ := at2
    have isSign : a.cps.toList[j]? = some ch := Array.getElem?_toList.trans hch
    have free := hcl cc isCell
    rw [← T.cells] at free
    have func : cenv.scope.kind = .function := T.own.symm ▸ S.kind
    have isLocal : cenv.kindOf x = some .local := (congrArg (fun sc : Scope => sc.names.lookup x) T.own).trans S.la
    have isFree : cenv.kindOf y = some .free := (congrArg (fun sc : Scope => sc.names.lookup y) T.own).trans hy2
    refine wpAny_Compare1 (wpAny_Name (wpAny_loadName_local func isLocal ns ma ?_) hda) rfl
    refine wpAny_Name (wpAny_loadName_free func isFree free ⟨oc, T.still _ _ cP at_, isText⟩ ?_ (hn := hdc)) hdb
    exact PyProof.Rows.in_str ⟨(congrArg Value.bool (PySem.StrLaws.found_one z ch)).trans (congrArg Value.bool (GxR.trF_some (pb := fun c => decide (c ∈ z.cps.toList)) isSign).symm), GxR.keeps_refl _⟩
  · rintro g s5 ⟨fp, wr, G, F', St, W, st, _, say, held⟩
    refine call_all_walkS (W.self 0 _ _ _ st ⟨g, fp, wr, G, _, F', St, _, rfl, W, st, truth_of say, fun s' mv => ?_⟩)
    obtain ⟨H2, grown, J2⟩ := held s' mv
    exact ⟨.bl _, H2, J2, rfl, (GxR.all_signs a _).symm ▸ q H2 grown⟩
end
/-! ### what stays where tables of code may grow -/
def Tb (T : List Addr) (H : Hp) : Prop := ∀ t ∈ T, GxR.TabG H t
structure Ext (T : List Addr) (H H' : Hp) : Prop where
  ext : ∀ b o, H b = some o → (∀ ps, o ≠ .tbl ps) → H' b = some o
  t0 : Tb T H
  t1 : Tb T H'
  free : ∀ b, H' b = none → H b = none
section
variable {T : List Addr} {H H1 H2 : Hp}
theorem Ext.refl (h : Tb T H) : Ext T H H := ⟨fun _ _ e _ => e, h, h, fun _ e => e⟩
theorem Ext.trans (a : Ext T H H1) (b : Ext T H1 H2) : Ext T H H2 := ⟨fun c o e n => b.ext c o (a.ext c o e n) n, a.t0, b.t1, fun c e => a.free c (b.free c e)⟩
theorem Ext.lst (a : Ext T H H1) {p : Addr} {xs : List V} (h : H p = some (.lst xs)) : H1 p = some (.lst xs) := a.ext _ _ h fun _ z => nomatch z
theorem Ext.tup (a : Ext T H H1) {p : Addr} {xs : List V} (h : H p = some (.tup xs)) : H1 p = some (.tup xs) := a.ext _ _ h fun _ z => nomatch z
theorem Ext.same (s : Same H H1) (h : Tb T H) : Ext T H H1 := ⟨fun b o e _ => s b o e, h, fun t ht => by
  obtain ⟨ps, h1, h2⟩ := h t ht
  exact ⟨ps, s _ _ h1, h2⟩, fun b e => s.free e⟩
theorem Ext.new (a : Ext T H H1) {p : Addr} {o : HO} (hp : H p = none) : Ext T H (upd H1 p o) := by
  refine ⟨fun b u e n => ?_, a.t0, fun t ht => ?_, fun b e => ?_⟩
  · rw [upd_ne (ne_of_none e hp)]
    exact a.ext b u e n
  · obtain ⟨ps, h1, h2⟩ := a.t1 t ht
    obtain ⟨qs, h3, _⟩ := a.t0 t ht
    exact ⟨ps, by rw [upd_ne (ne_of_none h3 hp)]; exact h1, h2⟩
  · by_cases z : b = p
    · subst z
      exact hp
    · rw [upd_ne z] at e
      exact a.free b e
theorem Ext.tabbed {t : Addr} (h : Tb T H) (x : GxR.Tabbed t H H1) (ht : t ∈ T) : Ext T H H1 := by
  refine ⟨fun b o e n => ?_, h, fun u hu => ?_, fun b e => ?_⟩
  · obtain ⟨ps, h1, _⟩ := h t ht
    rw [x.2 b (fun z => by rw [z, h1] at e; exact n ps (Option.some.inj e).symm)]
    exact e
  · by_cases z : u = t
    · rw [z]
      exact x.1
    · obtain ⟨ps, h1, h2⟩ := h u hu
      exact ⟨ps, by rw [x.2 u z]; exact h1, h2⟩
  · by_cases z : b = t
    · obtain ⟨ps, h1, _⟩ := x.1
      rw [z, h1] at e
      cases e
    · rw [x.2 b z] at e
      exact e
end
/-! ### shops -/
inductive Ofr where
  | pack (c : List Int) (p : Int)
  | many (c : List Int) (ts : List (Int × Int))
  | add (c : List Int) (p k : Int)
def Ofr.cont : Ofr → List Int
  | .pack c _ => c
  | .many c _ => c
  | .add c _ _ => c
def Ofr.word : Ofr → Str
  | .pack _ _ => "pack"
  | .many _ _ => "many"
  | .add _ _ _ => "add"
def TiersAt (H : Hp) (a : Addr) (ts : List (Int × Int)) : Prop := ∃ us : List Addr, H a = some (.lst (us.map V.ref)) ∧ us.length = ts.length ∧ ∀ (i : Nat) u (t : Int × Int), us[i]? = some u → ts[i]? = some t → H u = some (.tup [.int t.1, .int t.2])
def OfrAt (H : Hp) (a : Addr) : Ofr → Prop
  | .pack c p => ∃ b, H a = some (.tup [.str "pack", .ref b, .int p]) ∧ H b = some (LI c)
  | .many c ts => ∃ b t, H a = some (.tup [.str "many", .ref b, .ref t]) ∧ H b = some (LI c) ∧ TiersAt H t ts
  | .add c p k => ∃ b, H a = some (.tup [.str "add", .ref b, .int p, .int k]) ∧ H b = some (LI c)
def ShopAt (H : Hp) (a : Addr) (os : List Ofr) : Prop := ∃ vs : List Addr, H a = some (.lst (vs.map V.ref)) ∧ vs.length = os.length ∧ ∀ (i : Nat) v o, vs[i]? = some v → os[i]? = some o → OfrAt H v o
section
variable {T : List Addr} {H H1 : Hp} (e : Ext T H H1)
include e
theorem TiersAt.ext {a : Addr} {ts : List (Int × Int)} (h : TiersAt H a ts) : TiersAt H1 a ts := by
  obtain ⟨us, h1, h2, h3⟩ := h
  exact ⟨us, e.lst h1, h2, fun i u t a b => e.tup (h3 i u t a b)⟩
theorem OfrAt.ext {a : Addr} : ∀ {o : Ofr}, OfrAt H a o → OfrAt H1 a o
  | .pack c p, ⟨b, h1, h2⟩ => ⟨b, e.tup h1, e.lst h2⟩
  | .many c ts, ⟨b, t, h1, h2, h3⟩ => ⟨b, t, e.tup h1, e.lst h2, h3.ext e⟩
  | .add c p k, ⟨b, h1, h2⟩ => ⟨b, e.tup h1, e.lst h2⟩
theorem ShopAt.ext {a : Addr} {os : List Ofr} (h : ShopAt H a os) : ShopAt H1 a os := by
  obtain ⟨vs, h1, h2, h3⟩ := h
  exact ⟨vs, e.lst h1, h2, fun i v o a b => (h3 i v o a b).ext e⟩
end
/-- the offer's word and its content, whatever it is -/
theorem OfrAt.head {H : Hp} {a : Addr} : ∀ {o : Ofr}, OfrAt H a o → ∃ b r, H a = some (.tup (.str o.word :: .ref b :: r)) ∧ H b = some (LI o.cont)
  | .pack c p, ⟨b, h1, h2⟩ => ⟨b, _, h1, h2⟩
  | .many c ts, ⟨b, t, h1, h2, h3⟩ => ⟨b, _, h1, h2⟩
  | .add c p k, ⟨b, h1, h2⟩ => ⟨b, _, h1, h2⟩
theorem ShopAt.get {H : Hp} {a : Addr} {os : List Ofr} {vs : List Addr} (h : vs.length = os.length) {i : Nat} (hi : i < os.length) : ∃ v o, vs[i]? = some v ∧ os[i]? = some o ∧ (vs.map V.ref)[i]? = some (.ref v) := by
  refine ⟨vs[i]'(by omega), os[i], List.getElem?_eq_getElem (by omega), List.getElem?_eq_getElem hi, ?_⟩
  rw [List.getElem?_map, List.getElem?_eq_getElem (by omega)]
  rfl
structure GoodT (ts : List (Int × Int)) : Prop where
  pos : 1 ≤ ts.length
  few : ts.length ≤ 4
  one : ∀ t, ts[0]? = some t → t.1 = 1
  most : ∀ t ∈ ts, t.1 ≤ 12
  rise : ∀ (i : Nat) a b, ts[i]? = some a → ts[i + 1]? = some b → a.1 < b.1
def GoodO (os : List Ofr) (i : Nat) : Ofr → Prop
  | .pack _ _ => True
  | .many _ ts => GoodT ts
  | .add _ _ k => ∃ j : Nat, k = (j : Int) ∧ j < i ∧ ∃ c p, os[j]? = some (.pack c p)
def Good (os : List Ofr) : Prop := os.length ≤ 8 ∧ ∀ (i : Nat) o, os[i]? = some o → GoodO os i o
/-- F.ok with the code object told -/
theorem okc {P : Program} {w : World} {K : PySem.W.Frag} {mg : Str → Option Value} {base : Heap} {x qual : Str} {st : Stmt} {f c : Addr} {fd : FuncData} {N ps : List Str} {k : Nat} {sp : Sp} (F : Fun K x qual st f fd) (hc : fd.code = .ref c) (S : FnScope N ps (defScope st)) (len : ∀ vs H Q E, sp vs H Q E → vs.length = ps.length)
    (hbody : ∀ (cdv : Value) (A : Around) (outer : List Env) (s : Shared) (H : Hp) (vs : List V) (Q : VK) (E : XK), cdv = .ref c → Room k (A.deeper (envOfC qual (defScope st) s.heap.objs.size f cdv)) → sp vs H Q E →
      ∃ t, PSs (cxOf CX0 P w K mg base N qual (defScope st) f cdv A outer s H E).nox (defBody st) t ∧ t { nx := fun _ H' => Q .non H', rt := Q } (start N vs) H) : FnOk P w K mg base CX0 (k + 1) f fd ps sp := by
  obtain ⟨oc, od, kV, doc, pm, an, cdv, ct, osl, rfl, lk, hcd⟩ := F.ex
  refine fn_of lk hcd S len fun A outer s H vs Q E hr hsp => ?_
  obtain ⟨t, h, q⟩ := hbody cdv A outer s H vs Q E hc hr hsp
  exact ⟨t, h.nox, q⟩
/-- a list without its first -/
theorem cut1 (l : List V) : cutV l (some 1) none = l.drop 1 := by
  have a : HT.sIx l.length 0 (some ((1 : Nat) : Int)) = min 1 l.length := HT.sIx_nat _ _ _
  show (l.drop (HT.sIx l.length 0 (some ((1 : Nat) : Int)))).take (l.length - HT.sIx l.length 0 (some ((1 : Nat) : Int))) = l.drop 1
  rw [a]
  rcases Nat.eq_zero_or_pos l.length with z | z
  · rw [List.eq_nil_of_length_eq_zero z]
    rfl
  · rw [Nat.min_eq_left z]
    exact List.take_of_length_le (by rw [List.length_drop]; exact Nat.le_refl _)
/-! ### names_pack, good_tiers, can_stand, look -/
abbrev s_names_pack : Stmt := topS 7
abbrev N_names_pack : List Str := ["shop", "at", "place"]
theorem sc_names_pack : FnScope N_names_pack ["shop", "at"] (defScope s_names_pack) := ⟨rfl, rfl, rfl, by decide +kernel, rfl, by decide +kernel, by decide +kernel⟩

abbrev s_good_tiers : Stmt := topS 8
abbrev N_good_tiers : List Str := ["tiers", "begins", "begin", "price", "low", "high"]
theorem sc_good_tiers : FnScope N_good_tiers ["tiers"] (defScope s_good_tiers) := ⟨rfl, rfl, rfl, by decide +kernel, rfl, by decide +kernel, by decide +kernel⟩

abbrev s_can_stand : Stmt := topS 9
abbrev N_can_stand : List Str := ["shop", "at", "kind"]
theorem sc_can_stand : FnScope N_can_stand ["shop", "at"] (defScope s_can_stand) := ⟨rfl, rfl, rfl, by decide +kernel, rfl, by decide +kernel, by decide +kernel⟩

abbrev s_look : Stmt := topS 10
abbrev N_look : List Str := ["shop", "at"]
theorem sc_look : FnScope N_look ["shop"] (defScope s_look) := ⟨rfl, rfl, rfl, by decide +kernel, rfl, by decide +kernel, by decide +kernel⟩

def sp_names_pack : Sp := fun vs H Q _ => ∃ (a : Addr) (os : List Ofr) (i j : Nat) (c c' : List Int) (p p' : Int), vs = [.ref a, .int i] ∧ ShopAt H a os ∧ os[i]? = some (.add c p j) ∧ j < i ∧ os[j]? = some (.pack c' p') ∧ Q (.bl true) H
def sp_good_tiers (T : List Addr) : Sp := fun vs H Q _ => ∃ (a : Addr) (ts : List (Int × Int)), vs = [.ref a] ∧ TiersAt H a ts ∧ GoodT ts ∧ Tb T H ∧ ∀ H', Ext T H H' → Q (.bl true) H'
def sp_can_stand (T : List Addr) : Sp := fun vs H Q _ => ∃ (a : Addr) (os : List Ofr) (i : Nat), vs = [.ref a, .int i] ∧ ShopAt H a os ∧ Good os ∧ i < os.length ∧ Tb T H ∧ ∀ H', Ext T H H' → Q (.bl true) H'
def sp_look (T : List Addr) : Sp := fun vs H Q _ => ∃ (a : Addr) (os : List Ofr), vs = [.ref a] ∧ ShopAt H a os ∧ Good os ∧ Tb T H ∧ ∀ H', Ext T H H' → Q .non H'
section
variable {P : Program} {w : World} {K : PySem.W.Frag} {mg : Str → Option Value} {base : Heap} {T : List Addr}
theorem ok_names_pack {f : Addr} {fd : FuncData} {k : Nat} (D : Def K mg "names_pack" s_names_pack ["shop", "at"] f fd) : FnOk P w K mg base CX0 (k + 1) f fd ["shop", "at"] sp_names_pack := by
  refine D.F.ok sc_names_pack (fun vs H Q E h => ?_) (fun cdv A outer s H vs Q E hr h => ?_)
  · obtain ⟨a, os, i, j, c, c', p, p', rfl, _⟩ := h
    rfl
  · obtain ⟨a, os, i, j, c, c', p, p', rfl, ⟨vs, h1, h2, h3⟩, hi, hj, hp, q⟩ := h
    have li : i < os.length := (List.getElem?_eq_some_iff.mp hi).1
    obtain ⟨v, o, g1, g2, g3⟩ := ShopAt.get (H := H) (a := a) h2 li
    cases Option.some.inj (g2.symm.trans hi)
    obtain ⟨b, hb, _⟩ := h3 i v _ g1 g2
    obtain ⟨v', o', g4, g5, g6⟩ := ShopAt.get (H := H) (a := a) h2 (show j < os.length by omega)
    cases Option.some.inj (g5.symm.trans hp)
    obtain ⟨b', hb', _⟩ := h3 j v' _ g4 g5
    refine ⟨_, (pss_cons (ps_set (i := 2) sc_names_pack.nd rfl (Or.inl rfl) (pe_ix ix_tup (pe_ix ix_list (pv 0) (pv 1) (fun _ _ => rfl)) pe_int (fun _ _ => rfl)))
  (pss_one (ps_ret (pe_and (pe_chain op_le op_lt pe_int (pv 2) (pv 1)) (pe_one (pe_cmpR op_eq (pe_ix ix_tup (pe_ix ix_list (pv 0) (pv 2) (fun _ _ => rfl)) pe_int (fun _ _ => rfl)) pe_str (nomark _))))))), ?_⟩
    refine ⟨_, rfl, _, rfl, a, _, _, _, rfl, rfl, SqL.of h1, atI_nat g3, v, _, _, _, rfl, rfl, SqT.of hb, atI_nat (j := 3) rfl, ?_⟩
    refine ⟨_, rfl, _, _, rfl, rfl, true, (by show V.bl _ = V.bl _; rw [decide_eq_true (by omega)]), _, rfl, _, _, rfl, rfl, true, (by show V.bl _ = V.bl _; rw [decide_eq_true (by omega)]), ?_⟩
    refine ⟨_, rfl, _, rfl, a, _, _, _, rfl, rfl, SqL.of h1, atI_nat g6, v', _, _, _, rfl, rfl, SqT.of hb', atI_nat (j := 0) rfl, rfl, q⟩
theorem ok_good_tiers {f c t : Addr} {fd : FuncData} {k : Nat} (M : Names mg) (D : Def K mg "good_tiers" s_good_tiers ["tiers"] f fd) (hc : fd.code = .ref c) (TB : GxR.TabB base mg c t) (ht : t ∈ T) : FnOk P w K mg base CX0 (k + 1) f fd ["tiers"] (sp_good_tiers T) := by
  obtain ⟨t4, m_MOST_TIERS⟩ := M.c_MOST_TIERS
  obtain ⟨t12, m_MOST_PIECES⟩ := M.c_MOST_PIECES
  refine okc D.F hc sc_good_tiers (fun vs H Q E h => ?_) (fun cdv A outer s H vs Q E ec hr h => ?_)
  · obtain ⟨a, ts, rfl, _⟩ := h
    rfl
  · obtain ⟨a, ts, rfl, ⟨us, h1, h2, h3⟩, gd, hT, q⟩ := h
    refine ⟨_, (pss_cons (ps_setLc (i := 1) (own := [("begin", 2), ("price", 3)]) (by rfl) sc_good_tiers.nd rfl rfl (sw_true rfl rfl rfl (by decide +kernel)) (pi_list (pv 0)) (blkOk_by (own := [("begin", 2), ("price", 3)]) (N := N_good_tiers) (sc := defScope s_good_tiers) (by decide +kernel)) (fun _ _ _ _ _ => (pg_tupK (K := K) (n := 2) rfl rfl (pgs_cons (pg_name (i := 2) sc_good_tiers.nd rfl (Or.inl rfl)) (pgs_cons (pg_name (i := 3) sc_good_tiers.nd rfl (Or.inl rfl)) pgs_nil)))) (fun _ _ _ _ _ => pts_nil) (fun _ _ _ _ _ => (pv 2)))
  (pss_cons (ps_if (pt_not (pt_chain op_le op_le pe_int (pe_callB call_len_seq (by rfl) M.len (by decide +kernel) (pa_cons (pv 1) pa_nil)) (pe_glob (v := .int 4) (by rfl) m_MOST_TIERS ⟨_, rfl⟩)))
   (pss_one (ps_ret pe_bl))
   pss_nil)
  (pss_cons (ps_if (PW.pt (pw_or (pt_cmpR op_ne (pe_ix ix_list (pv 1) pe_int (fun _ _ => rfl)) pe_int (nomark _)) (pw_or1 (pt_cmpR op_gt (pe_ix ix_list (pv 1) (pe_un un_neg pe_int) (fun _ _ => rfl)) (pe_glob (v := .int 12) (by rfl) m_MOST_PIECES ⟨_, rfl⟩) (nomark _)))))
   (pss_one (ps_ret pe_bl))
   pss_nil)
  (pss_one (ps_ret (pe_allZip hr (by rfl) M.all (by decide +kernel) (by rfl) M.zip TB ec ⟨rfl, rfl, by decide +kernel, rfl, rfl, rfl, by decide, (by show ∀ y : Str × NameKind, y ∈ _ → y.2 = .free → (defScope s_good_tiers).names.lookup y.1 = some .cell; decide +kernel)⟩ (pv 1) (pe_slice sl_list (pv 1) (po_some pe_int) po_none) (by decide) (by decide))))))), ?_⟩
    have pos := gd.pos
    have few := gd.few
    refine ⟨_, rfl, a, rfl, ⟨_, SqL.of h1⟩, fun B nB => lc_list (xs := us.map V.ref) (fun i H' => Same H H' ∧ H' B = some (LI ((ts.take i).map (·.1)))) ⟨same_upd nB, upd_same⟩ (fun i H' _ hp => SqL.of (hp.1 _ _ h1)) (fun i x H1 hx hp => ?_) (fun H1 hp => ?_)⟩
    · obtain ⟨s1, hB⟩ := hp
      rw [List.getElem?_map] at hx
      cases hu : us[i]? with
      | none => rw [hu] at hx; cases hx
      | some u =>
        rw [hu] at hx
        cases Option.some.inj hx
        have hi : i < ts.length := by
          have := (List.getElem?_eq_some_iff.mp hu).1
          omega
        have gt := List.getElem?_eq_getElem hi
        refine ⟨u, _, rfl, SqT.of (s1 _ _ (h3 i u _ hu gt)), rfl, _, _, rfl, _, _, rfl, rfl, rfl, _, rfl, _, hB, szL' (by rw [List.length_map, List.length_map, List.length_take]; omega), sm_new s1 nB, ?_⟩
        rw [take_succ_at gt, List.map_append]
        exact at_app
    · obtain ⟨s1, hB⟩ := hp
      rw [List.length_map, h2, List.take_length] at hB
      generalize hbs : ts.map (·.1) = bs at hB
      have lbs : bs.length = ts.length := by rw [← hbs, List.length_map]
      have gbs : ∀ (i : Nat) t, ts[i]? = some t → bs[i]? = some t.1 := fun i t h => by rw [← hbs, List.getElem?_map, h]; rfl
      have gbs0 : ∀ i, i < bs.length → ∃ t, ts[i]? = some t ∧ bs[i]? = some t.1 := fun i hi => ⟨ts[i]'(by omega), List.getElem?_eq_getElem (by omega), gbs _ _ (List.getElem?_eq_getElem (by omega))⟩
      have hE : Ext T H H1 := .same s1 hT
      -- not 1 <= len(begins) <= MOST_TIERS
      refine ⟨_, rfl, B, _, rfl, .inl (SqL.of hB), _, _, rfl, rfl, true, (by show V.bl _ = V.bl _; rw [decide_eq_true (by rw [List.length_map]; omega)]), _, _, rfl, rfl, true, (by show V.bl _ = V.bl _; rw [decide_eq_true (by rw [List.length_map]; omega)]), ?_⟩
      -- begins[0] != 1 or begins[-1] > MOST_PIECES
      obtain ⟨x0, k1, k2⟩ := gbs0 0 (by omega)
      have e1 : x0.1 = 1 := gd.one _ k1
      refine ⟨_, rfl, B, _, _, _, rfl, rfl, SqL.of hB, atI_nat (j := 0) (get_ints k2), rfl, _, rfl, iteNS (by rw [e1]) ?_⟩
      obtain ⟨x1, k3, k4⟩ := gbs0 (bs.length - 1) (by omega)
      have hneg : atI (bs.map V.int) (-1) = some (.int x1.1) := by
        have e : bs.map V.int = (bs.map V.int).take (bs.length - 1) ++ [.int x1.1] := by
          rw [← take_succ_at (get_ints k4), show bs.length - 1 + 1 = bs.length by omega]
          exact (List.take_of_length_le (by rw [List.length_map]; exact Nat.le_refl _)).symm
        rw [e]
        exact atI_last _ _
      have hm := gd.most x1 (List.mem_of_getElem? k3)
      refine ⟨_, rfl, 1, rfl, B, _, -1, _, rfl, rfl, SqL.of hB, hneg, _, _, rfl, rfl, _, rfl, ?_⟩
      rw [decide_eq_false (by omega)]
      -- all(..)
      refine ⟨_, rfl, _, rfl, 1, rfl, B, _, rfl, SqL.of hB, fun z nz => ⟨B, z, bs, bs.drop 1, rfl, rfl, SqL.of ((same_upd nz) _ _ hB), SqL.of (by rw [upd_same]; congr 2; rw [List.map_drop]; exact cut1 _), (hE.new (s1.free nz)).t1 t ht, fun H3 t3 => ?_⟩⟩
      have all1 : ((List.range (min bs.length (bs.drop 1).length)).all fun i => decide (bs.getD i 0 < (bs.drop 1).getD i 0)) = true := by
        rw [List.all_eq_true]
        intro i hi
        have hi2 := List.mem_range.mp hi
        rw [List.length_drop] at hi2
        obtain ⟨y0, z1, z2⟩ := gbs0 i (by omega)
        obtain ⟨y1, z3, z4⟩ := gbs0 (i + 1) (by omega)
        have := gd.rise i y0 y1 z1 z3
        refine decide_eq_true ?_
        rw [List.getD_eq_getElem?_getD, z2, List.getD_eq_getElem?_getD, List.getElem?_drop, Nat.add_comm 1 i, z4]
        exact this
      rw [all1]
      exact q H3 ((hE.new (s1.free nz)).trans (.tabbed (hE.new (s1.free nz)).t1 t3 ht))
theorem ok_can_stand {f f1 f2 c t : Addr} {fd fd1 fd2 : FuncData} {k : Nat} (M : Names mg) (D : Def K mg "can_stand" s_can_stand ["shop", "at"] f fd) (D_names_pack : Def K mg "names_pack" s_names_pack ["shop", "at"] f1 fd1) (D_good_tiers : Def K mg "good_tiers" s_good_tiers ["tiers"] f2 fd2)
    (hc : fd2.code = .ref c) (TB : GxR.TabB base mg c t) (ht : t ∈ T) : FnOk P w K mg base CX0 (k + 2) f fd ["shop", "at"] (sp_can_stand T) := by
  have G_names_pack : FnOk P w K mg base CX0 (k + 1) f1 fd1 ["shop", "at"] sp_names_pack := ok_names_pack D_names_pack
  have G_good_tiers : FnOk P w K mg base CX0 (k + 1) f2 fd2 ["tiers"] (sp_good_tiers T) := ok_good_tiers M D_good_tiers hc TB ht
  refine D.F.ok sc_can_stand (fun vs H Q E h => ?_) (fun cdv A outer s H vs Q E hr h => ?_)
  · obtain ⟨a, os, i, rfl, _⟩ := h
    rfl
  · obtain ⟨a, os, i, rfl, ⟨vs, h1, h2, h3⟩, gd, hi, hT, q⟩ := h
    obtain ⟨v, o, g1, g2, g3⟩ := ShopAt.get (H := H) (a := a) h2 hi
    have ho := h3 i v o g1 g2
    have hg := gd.2 i o g2
    refine ⟨_, (pss_cons (ps_set (i := 2) sc_can_stand.nd rfl (Or.inl rfl) (pe_ix ix_tup (pe_ix ix_list (pv 0) (pv 1) (fun _ _ => rfl)) pe_int (fun _ _ => rfl)))
  (pss_cons (ps_if (pt_cmpR op_eq (pv 2) pe_str (nomark _))
   (pss_one (ps_ret (pe_call G_names_pack hr (by rfl) D_names_pack.g D_names_pack.F.kp D_names_pack.b .nil pass0 (pa_cons (pv 0) (pa_cons (pv 1) pa_nil)))))
   pss_nil)
  (pss_cons (ps_if (pt_cmpR op_eq (pv 2) pe_str (nomark _))
   (pss_one (ps_ret (pe_call G_good_tiers hr (by rfl) D_good_tiers.g D_good_tiers.F.kp D_good_tiers.b .nil pass0 (pa_cons (pe_ix ix_tup (pe_ix ix_list (pv 0) (pv 1) (fun _ _ => rfl)) pe_int (fun _ _ => rfl)) pa_nil))))
   pss_nil)
  (pss_one (ps_ret pe_bl))))), ?_⟩
    cases o with
    | pack c p =>
      obtain ⟨b, hb, _⟩ := ho
      refine ⟨_, rfl, _, rfl, a, _, _, _, rfl, rfl, SqL.of h1, atI_nat g3, v, _, _, _, rfl, rfl, SqT.of hb, atI_nat (j := 0) rfl, ?_⟩
      refine ⟨_, rfl, rfl, false, rfl, ?_⟩
      refine ⟨_, rfl, rfl, false, rfl, ?_⟩
      exact q H (.refl hT)
    | many c ts =>
      obtain ⟨b, t', hb, _, hts⟩ := ho
      refine ⟨_, rfl, _, rfl, a, _, _, _, rfl, rfl, SqL.of h1, atI_nat g3, v, _, _, _, rfl, rfl, SqT.of hb, atI_nat (j := 0) rfl, ?_⟩
      refine ⟨_, rfl, rfl, false, rfl, ?_⟩
      refine ⟨_, rfl, rfl, true, rfl, ?_⟩
      exact ⟨_, rfl, _, rfl, a, _, _, _, rfl, rfl, SqL.of h1, atI_nat g3, v, _, _, _, rfl, rfl, SqT.of hb, atI_nat (j := 2) rfl, t', ts, rfl, hts, hg, hT, q⟩
    | add c p kk =>
      obtain ⟨b, hb, _⟩ := ho
      obtain ⟨j, rfl, hj, c', p', hp⟩ := hg
      refine ⟨_, rfl, _, rfl, a, _, _, _, rfl, rfl, SqL.of h1, atI_nat g3, v, _, _, _, rfl, rfl, SqT.of hb, atI_nat (j := 0) rfl, ?_⟩
      refine ⟨_, rfl, rfl, true, rfl, ?_⟩
      exact ⟨_, rfl, _, rfl, a, os, i, j, c, c', p, p', rfl, ⟨vs, h1, h2, h3⟩, g2, hj, hp, q H (.refl hT)⟩
theorem ok_look {f f0 f1 f2 c t : Addr} {fd fd0 fd1 fd2 : FuncData} {k : Nat} (M : Names mg) (D : Def K mg "look" s_look ["shop"] f fd) (D_can_stand : Def K mg "can_stand" s_can_stand ["shop", "at"] f0 fd0) (D_names_pack : Def K mg "names_pack" s_names_pack ["shop", "at"] f1 fd1) (D_good_tiers : Def K mg "good_tiers" s_good_tiers ["tiers"] f2 fd2)
    (hc : fd2.code = .ref c) (TB : GxR.TabB base mg c t) (ht : t ∈ T) : FnOk P w K mg base CX0 (k + 3) f fd ["shop"] (sp_look T) := by
  have G_can_stand : FnOk P w K mg base CX0 (k + 2) f0 fd0 ["shop", "at"] (sp_can_stand T) := ok_can_stand M D_can_stand D_names_pack D_good_tiers hc TB ht
  refine D.F.ok sc_look (fun vs H Q E h => ?_) (fun cdv A outer s H vs Q E hr h => ?_)
  · obtain ⟨a, os, rfl, _⟩ := h
    rfl
  · obtain ⟨a, os, rfl, hS, gd, hT, q⟩ := h
    obtain ⟨vs, h1, h2, h3⟩ := id hS
    have l100 := gd.1
    refine ⟨_, (pss_one (ps_for PassesOwn.never rfl (pi_range1 (by rfl) M.range (pa_cons (pe_callB call_len_seq (by rfl) M.len (by decide +kernel) (pa_cons (pv 0) pa_nil)) pa_nil)) (pg_name (i := 1) sc_look.nd rfl (Or.inl rfl))
   (pss_one (ps_if (pt_not (pt_val (pe_call G_can_stand hr (by rfl) D_can_stand.g D_can_stand.F.kp D_can_stand.b .nil pass0 (pa_cons (pv 0) (pa_cons (pv 1) pa_nil)))))
   (pss_one ps_never)
   pss_nil)))), ?_⟩
    refine ⟨_, rfl, a, _, rfl, .inl (SqL.of h1), _, rfl, by omega, by rw [List.length_map]; omega, for_range (n := (((vs.map V.ref).length : Nat) : Int).toNat) (fun i σ H' => ∃ y1, σ = [some (.ref a), y1] ∧ Ext T H H') ⟨none, rfl, .refl hT⟩ (fun i σ H1 hi hp => ?_) (fun σ H1 hp => ?_)⟩
    · obtain ⟨y1, rfl, e1⟩ := hp
      rw [Int.toNat_natCast, List.length_map] at hi
      refine ⟨_, rfl, _, rfl, a, os, i, by show [V.ref a, V.int (0 + (i : Int))] = _; rw [Int.zero_add], hS.ext e1, gd, by omega, e1.t1, fun H2 e2 => ⟨true, rfl, ?_⟩⟩
      exact ⟨_, rfl, e1.trans e2⟩
    · obtain ⟨y1, rfl, e1⟩ := hp
      exact q H1 e1
end
/-! ### any(xs) of ints; tuple(xs) at a written K -/
theorem truth_ints {prog : Program} {w : World} {A : Around} {ns : List Int} {its : List Value} (rv : Vals (ns.map V.int) its) :
    TruthOf prog w A (fun i v => its.toArray[i]? = some v) (fun i => (ns.getD i 0) != 0) := by
  intro i v s Q E at_ q
  have inIts : its[i]? = some v := by simpa using at_
  have li : i < ns.length := List.length_map (f := V.int) ▸ rv.length.symm ▸ (List.getElem?_eq_some_iff.mp inIts).1
  obtain ⟨_, hu, t, rfl⟩ := rv.get (get_ints (List.getElem?_eq_getElem li))
  cases inIts.symm.trans hu
  have same : ns.getD i 0 = ns[i] := by
    rw [List.getD_eq_getElem?_getD, List.getElem?_eq_getElem li]
    rfl
  exact PySem.P.truthy_int (same ▸ q)
def anyI (ns : List Int) : Bool := ns.any (· != 0)
theorem anyI_range : ∀ ns : List Int, (List.range ns.length).any (fun i => (ns.getD i 0) != 0) = anyI ns
  | [] => rfl
  | b :: bs => by
    unfold anyI
    rw [List.length_cons, List.range_succ_eq_map, List.any_cons, List.any_map, List.any_cons]
    have ih := anyI_range bs
    unfold anyI at ih
    rw [← ih]
    rfl
def rAnyI (K : PySem.W.Frag) : List V → Hp → VK → Prop := fun vs H Q => ∃ (a : Addr) (ns : List Int), vs = [V.ref a] ∧ SqL K H a (ns.map V.int) ∧ Q (.bl (anyI ns)) H
theorem cr_anyI {X : Cx} (hc : X.calm = true) : CallR X (.builtin "any") (rAnyI X.K) := by
  rintro pins s σ H _ us Q I r ⟨a, ns, rfl, held, q⟩
  obtain ⟨its, rv, there, _⟩ := I.list held
  have many : its.length = ns.length := rv.length.symm.trans (List.length_map ..)
  cases Vals.ref1 r
  refine call_any_walk (iter_any there.isList ?_)
  rintro t rfl st apart
  refine ⟨_, _, _, _, _, _, _, rfl, Walks.list (A := X.A.in1) (I.ok.hd hc) _ a apart its.toArray, st, truth_ints rv, fun h' tk more => ⟨.bl _, H, I.kept fun b o e => more b o (fun z => ?_) (Heap.get?_push_of_some _ e), ?_, q⟩⟩
  · cases List.mem_singleton.mp z
    exact Nat.lt_irrefl _ (Heap.lt_size e)
  · exact congrArg Value.bool (by rw [← anyI_range, List.size_toArray, many])
theorem cr_anyIK {X : Cx} {K : PySem.W.Frag} (h : X.K = K) (hc : X.calm = true) : CallR X (.builtin "any") (rAnyI K) := by subst h; exact cr_anyI hc
theorem pe_tupleOfK {X : Cx} {K : PySem.W.Frag} {a : Expr} {ta : TE} {p pos : Pos} (h : X.K = K) (hg : Gl X "tuple") (hm : X.mg "tuple" = none) (ha : PE X a ta) (na : starEach [a] X.env = (false, eval a X.env) :: starEach [] X.env := by rfl) :
    PE X (.Call (.Name "tuple" p) [a] [] pos) (tThen ta (kTup K)) := by subst h; exact pe_tupleOf hg hm ha na
/-! ### texts of contents -/
/-- the text of a number -/
abbrev numS (n : Nat) : Str := Str.ofString (toString ((n : Nat) : Int))
theorem tl_numS (n : Nat) : TL.tl (numS n) = TL.numL n := TL.tl_num n
theorem numS_len (n : Nat) : (numS n).length = (TL.numL n).length := by rw [TL.len_tl, tl_numS]
theorem str_nil_app (x : Str) : Str.empty ++ x = x := TL.ext_tl (by rw [TL.tl_append]; rfl)
theorem str_len_app (x y : Str) : (x ++ y).length = x.length + y.length := by rw [TL.len_tl, TL.len_tl, TL.len_tl, TL.tl_append, List.length_append]
/-- «3 ham» -/
def partS (n : Nat) (x : Str) : Str := numS n ++ (" " : Str) ++ x
theorem tl_blank : TL.tl (" " : Str) = [32] := by decide +kernel
theorem tl_comma : TL.tl (", " : Str) = [44, 32] := by decide +kernel
theorem tl_part (n : Nat) (x : Str) : TL.tl (partS n x) = TL.numL n ++ 32 :: TL.tl x := by
  unfold partS
  rw [TL.tl_append, TL.tl_append, tl_numS, tl_blank, List.append_assoc]
  rfl
structure GoodN (xs : List Str) : Prop where
  few : xs.length ≤ 4
  nd : xs.Nodup
  small : ∀ x ∈ xs, ∀ c ∈ TL.tl x, 97 ≤ c ∧ c ≤ 122
  short : ∀ x ∈ xs, x.length ≤ 8
  some : ∀ x ∈ xs, 1 ≤ x.length
/-- the places of the things that are there -/
def idxs (cs : List Int) (m : Nat) : List Nat := (List.range m).filter fun i => decide (0 < cs.getD i 0)
theorem idxs_succ (cs : List Int) (m : Nat) : idxs cs (m + 1) = idxs cs m ++ if 0 < cs.getD m 0 then [m] else [] := by
  unfold idxs
  rw [List.range_succ, List.filter_append]
  by_cases h : 0 < cs.getD m 0
  · rw [if_pos h, List.filter_cons_of_pos (by rw [decide_eq_true h])]
    rfl
  · rw [if_neg h, List.filter_cons_of_neg (by rw [decide_eq_false h]; decide)]
    rfl
theorem idxs_mem {cs : List Int} {m i : Nat} : i ∈ idxs cs m ↔ i < m ∧ 0 < cs.getD i 0 := by
  unfold idxs
  rw [List.mem_filter, List.mem_range, decide_eq_true_eq]
theorem idxs_len (cs : List Int) (m : Nat) : (idxs cs m).length ≤ m := by
  have := List.length_filter_le (fun i => decide (0 < cs.getD i 0)) (List.range m)
  rw [List.length_range] at this
  exact this
theorem idxs_nodup (cs : List Int) (m : Nat) : (idxs cs m).Nodup := List.Nodup.sublist (List.filter_sublist) List.nodup_range
def partAt (xs : List Str) (cs : List Int) (i : Nat) : Str := partS (cs.getD i 0).toNat (xs.getD i Str.empty)
def partsM (xs : List Str) (cs : List Int) (m : Nat) : List Str := (idxs cs m).map (partAt xs cs)
theorem partsM_succ (xs : List Str) (cs : List Int) (m : Nat) : partsM xs cs (m + 1) = partsM xs cs m ++ if 0 < cs.getD m 0 then [partAt xs cs m] else [] := by
  unfold partsM
  rw [idxs_succ, List.map_append]
  by_cases h : 0 < cs.getD m 0
  · rw [if_pos h, if_pos h]
    rfl
  · rw [if_neg h, if_neg h]
    rfl
theorem partsM_len (xs : List Str) (cs : List Int) (m : Nat) : (partsM xs cs m).length ≤ m := by
  unfold partsM
  rw [List.length_map]
  exact idxs_len cs m
def showM (xs : List Str) (cs : List Int) : Str := if partsM xs cs xs.length = [] then ("nothing" : Str) else Str.join (", " : Str) (partsM xs cs xs.length)
/-- contents as wanted: as many as names, numbers to nine -/
structure FitC (xs : List Str) (cs : List Int) : Prop where
  len : cs.length = xs.length
  small : ∀ c ∈ cs, 0 ≤ c ∧ c ≤ 9
theorem FitC.at {xs : List Str} {cs : List Int} (h : FitC xs cs) {i : Nat} (hi : i < xs.length) : cs[i]? = some (cs.getD i 0) ∧ 0 ≤ cs.getD i 0 ∧ cs.getD i 0 ≤ 9 := by
  have hl : i < cs.length := by rw [h.len]; exact hi
  have e : cs.getD i 0 = cs[i] := by rw [List.getD_eq_getElem?_getD, List.getElem?_eq_getElem hl]; rfl
  have := h.small cs[i] (List.getElem_mem hl)
  exact ⟨by rw [e]; exact List.getElem?_eq_getElem hl, by omega, by omega⟩
theorem name_at {xs : List Str} {i : Nat} (hi : i < xs.length) : xs[i]? = some (xs.getD i Str.empty) ∧ xs.getD i Str.empty ∈ xs := by
  have e : xs.getD i Str.empty = xs[i] := by rw [List.getD_eq_getElem?_getD, List.getElem?_eq_getElem hi]; rfl
  rw [e]
  exact ⟨List.getElem?_eq_getElem hi, List.getElem_mem hi⟩
theorem partAt_len {xs : List Str} {cs : List Int} (g : GoodN xs) (h : FitC xs cs) {i : Nat} (hi : i < xs.length) : (partAt xs cs i).length ≤ 10 := by
  obtain ⟨_, h1, h2⟩ := h.at hi
  obtain ⟨_, m⟩ := name_at hi
  have s := g.short _ m
  have e : (TL.numL (cs.getD i 0).toNat).length ≤ 1 := TL.numL_len (by decide) (by omega)
  have b : (" " : Str).length = 1 := by decide +kernel
  unfold partAt partS
  rw [str_len_app, str_len_app, numS_len, b]
  omega
theorem partAt_comma {xs : List Str} {cs : List Int} (g : GoodN xs) {i : Nat} (hi : i < xs.length) : 44 ∉ TL.tl (partAt xs cs i) := fun z => by
  unfold partAt at z
  rw [tl_part] at z
  rcases List.mem_append.mp z with z | z
  · exact TL.numL_free (by decide) z
  · rcases List.mem_cons.mp z with z | z
    · omega
    · have := g.small _ (name_at hi).2 _ z
      omega
theorem parts_all {xs : List Str} {cs : List Int} {p : Str} (h : p ∈ partsM xs cs xs.length) : ∃ i, i < xs.length ∧ 0 < cs.getD i 0 ∧ p = partAt xs cs i := by
  obtain ⟨i, hi, rfl⟩ := List.mem_map.mp h
  have := idxs_mem.mp hi
  exact ⟨i, this.1, this.2, rfl⟩
theorem join_split {xs : List Str} {cs : List Int} (g : GoodN xs) (h : partsM xs cs xs.length ≠ []) : Txt.split (Str.join (", " : Str) (partsM xs cs xs.length)) (", " : Str) = partsM xs cs xs.length := by
  rw [← TL.join_eq]
  refine TL.split_join tl_comma (by decide +kernel) h fun p hp => ?_
  obtain ⟨i, hi, _, rfl⟩ := parts_all hp
  exact partAt_comma g hi
theorem joinL_head (S p : List Nat) (r : List (List Nat)) {c : Nat} (h : c ∈ p) : c ∈ TL.joinL S (p :: r) := by
  cases r with
  | nil => exact h
  | cons q r => exact List.mem_append.mpr (.inl h)
theorem joined_blank {xs : List Str} {cs : List Int} (h : partsM xs cs xs.length ≠ []) : 32 ∈ TL.tl (Str.join (", " : Str) (partsM xs cs xs.length)) := by
  cases e : partsM xs cs xs.length with
  | nil => exact absurd e h
  | cons p r =>
    obtain ⟨i, _, _, rfl⟩ := parts_all (xs := xs) (cs := cs) (p := p) (by rw [e]; exact List.mem_cons_self)
    rw [TL.tl_join, List.map_cons]
    refine joinL_head _ _ _ ?_
    unfold partAt
    rw [tl_part]
    exact List.mem_append.mpr (.inr List.mem_cons_self)
theorem joined_other {xs : List Str} {cs : List Int} (h : partsM xs cs xs.length ≠ []) : Str.join (", " : Str) (partsM xs cs xs.length) ≠ ("nothing" : Str) := fun z => by
  have := joined_blank h
  rw [z] at this
  revert this
  decide +kernel
theorem join_len (y : Str) : ∀ ps : List Str, (∀ p ∈ ps, p.length ≤ 10) → (Str.join y ps).length ≤ ps.length * (10 + y.length)
  | [], _ => Nat.zero_le _
  | [p], h => by
    have := h p List.mem_cons_self
    show p.length ≤ (0 + 1) * (10 + y.length)
    omega
  | p :: q :: r, h => by
    have h1 := h p List.mem_cons_self
    have h2 := join_len y (q :: r) fun z hz => h z (List.mem_cons_of_mem _ hz)
    show (p ++ y ++ Str.join y (q :: r)).length ≤ ((q :: r).length + 1) * (10 + y.length)
    rw [str_len_app, str_len_app, Nat.add_mul]
    omega
theorem joined_len {xs : List Str} {cs : List Int} (g : GoodN xs) (h : FitC xs cs) : (Str.join (", " : Str) (partsM xs cs xs.length)).length ≤ 48 := by
  have h1 := join_len (", " : Str) (partsM xs cs xs.length) fun p hp => by
    obtain ⟨i, hi, _, rfl⟩ := parts_all hp
    exact partAt_len g h hi
  have h2 := partsM_len xs cs xs.length
  have h3 := g.few
  have b : (", " : Str).length = 2 := by decide +kernel
  rw [b] at h1
  omega
theorem parts_sum {ps : List Str} (h : ∀ p ∈ ps, p.length ≤ 10) : (ps.map (·.length)).sum ≤ ps.length * 10 := by
  induction ps with
  | nil => exact Nat.le_refl _
  | cons p r ih =>
    have h1 := h p List.mem_cons_self
    have h2 := ih fun z hz => h z (List.mem_cons_of_mem _ hz)
    rw [List.map_cons, List.sum_cons, List.length_cons]
    omega
/-- the first figure of a number above nought is no nought -/
theorem numL_head : ∀ n : Nat, 0 < n → ∃ c r, TL.numL n = c :: r ∧ c ≠ 48 := by
  intro n
  induction n using Nat.strongRecOn with
  | _ n ih =>
    intro h
    by_cases hn : n < 10
    · exact ⟨48 + n, [], TL.numL_lt hn, by omega⟩
    · obtain ⟨c, r, e, hc⟩ := ih (n / 10) (by omega) (by omega)
      refine ⟨c, r ++ [48 + n % 10], ?_, hc⟩
      rw [TL.numL_step (by omega), e]
      rfl
theorem numL_figs (n : Nat) : (TL.numL n).all (fun c => decide (c ∈ ("0123456789" : Str).cps.toList)) = true := by
  rw [List.all_eq_true]
  intro c hc
  have hd : 48 ≤ c ∧ c ≤ 57 := by
    have h1 : ¬ (c < 48 ∨ 57 < c) := fun z => TL.numL_free z hc
    omega
  obtain ⟨k, hk, rfl⟩ : ∃ k, k < 10 ∧ c = 48 + k := ⟨c - 48, by omega, by omega⟩
  have : ∀ k, k < 10 → decide ((48 + k) ∈ ("0123456789" : Str).cps.toList) = true := by decide +kernel
  exact this k hk
theorem numL_pos (n : Nat) : 1 ≤ (TL.numL n).length := by
  cases e : TL.numL n with
  | nil => exact absurd e (TL.numL_ne n)
  | cons c r => rw [List.length_cons]; omega
theorem numL_zero : TL.numL 0 = [48] := TL.numL_lt (by decide)
theorem part_cut (n : Nat) (x : Str) : Txt.partition (partS n x) (" " : Str) = (numS n, (" " : Str), x) :=
  TL.partition_app tl_blank (by rw [tl_numS]; exact TL.numL_free (by decide))
/-- an f-string's reading under a name of its own -/
def tJoined (ts : List TE) : TE := fun σ H Q => tJs ts Str.empty σ H fun out H1 => Q (.str out) H1
theorem pe_joinedD {X : Cx} {v1 v2 : Expr} {rest : List Expr} {ts : List TE} {pos : Pos} (h : PJ X (v1 :: v2 :: rest) ts) : PE X (.JoinedStr (v1 :: v2 :: rest) pos) (tJoined ts) := pe_joined h
/-! ### show_content -/
abbrev s_show_content : Stmt := topS 17
abbrev N_show_content : List Str := ["names", "content", "parts", "number", "name"]
theorem sc_show_content : FnScope N_show_content ["names", "content"] (defScope s_show_content) := ⟨rfl, rfl, rfl, by decide +kernel, rfl, by decide +kernel, by decide +kernel⟩

/-- a list of texts -/
abbrev LS (xs : List Str) : HO := .lst (xs.map V.str)
theorem ls_app (ls : List Str) (x : Str) : HO.lst (ls.map V.str ++ [.str x]) = LS (ls ++ [x]) := by
  show _ = HO.lst ((ls ++ [x]).map V.str)
  rw [List.map_append]
  rfl
theorem get_strs {xs : List Str} {i : Nat} {x : Str} (h : xs[i]? = some x) : (xs.map V.str)[i]? = some (.str x) := by
  rw [List.getElem?_map, h]
  rfl
theorem of_get_strs {xs : List Str} {i : Nat} {v : V} (h : (xs.map V.str)[i]? = some v) : ∃ x, xs[i]? = some x ∧ v = .str x := by
  rw [List.getElem?_map] at h
  cases e : xs[i]? with
  | none => rw [e] at h; cases h
  | some n => rw [e] at h; exact ⟨n, rfl, (Option.some.inj h).symm⟩
theorem fpart {c : Int} (h : 0 ≤ c) (x : Str) : ((Str.empty ++ Str.ofString (toString c)) ++ (" " : Str)) ++ x = partS c.toNat x := by
  obtain ⟨n, rfl⟩ := Int.eq_ofNat_of_zero_le h
  rw [str_nil_app]
  rfl
theorem small_log {c : Int} (h : 0 ≤ c) (h9 : c ≤ 9) : c.natAbs.log2 < 1920 := by
  have h1 : c.natAbs < 2 ^ 4 := by
    have : (2 : Nat) ^ 4 = 16 := rfl
    omega
  have := Nat.log2_lt (n := c.natAbs) (k := 4)
  by_cases hz : c.natAbs = 0
  · rw [hz]
    decide
  · have := (this hz).mpr h1
    omega
theorem num1_len {c : Int} (h : 0 ≤ c) (h9 : c ≤ 9) : (Str.ofString (toString c)).length ≤ 1 := by
  obtain ⟨n, rfl⟩ := Int.eq_ofNat_of_zero_le h
  have := TL.numL_len (n := n) (k := 1) (by decide) (by omega)
  have e : (Str.ofString (toString ((n : Nat) : Int))).length = (TL.numL n).length := numS_len n
  exact e ▸ this
theorem blank_len : (" " : Str).length = 1 := by decide +kernel
def sp_show_content (K : PySem.W.Frag) : Sp := fun vs H Q _ => ∃ (a b : Addr) (xs : List Str) (cs : List Int), vs = [.ref a, .ref b] ∧ H a = some (LS xs) ∧ H b = some (LI cs) ∧ GoodN xs ∧ FitC xs cs ∧ ∀ H', Same H H' → Q (.str (showM xs cs)) H'
section
variable {P : Program} {w : World} {K : PySem.W.Frag} {mg : Str → Option Value} {base : Heap} {T : List Addr}
theorem ok_show_content {f : Addr} {fd : FuncData} {k : Nat} (M : Names mg) (D : Def K mg "show_content" s_show_content ["names", "content"] f fd) : FnOk P w K mg base CX0 (k + 1) f fd ["names", "content"] (sp_show_content K) := by
  refine D.F.ok sc_show_content (fun vs H Q E h => ?_) (fun cdv A outer s H vs Q E hr h => ?_)
  · obtain ⟨a, b, xs, cs, rfl, _⟩ := h
    rfl
  · obtain ⟨a, b, xs, cs, rfl, ha, hb, g, fc, q⟩ := h
    have few := g.few
    refine ⟨_, (pss_cons (ps_setLc (i := 2) (own := [("number", 3), ("name", 4)]) (by rfl) sc_show_content.nd rfl rfl (sw_true rfl rfl rfl (by decide +kernel)) (pi_zip (by rfl) M.zip (pa_cons (pv 1) (pa_cons (pv 0) pa_nil))) (blkOk_by (own := [("number", 3), ("name", 4)]) (N := N_show_content) (sc := defScope s_show_content) (by decide +kernel)) (fun _ _ _ _ _ => (pg_tupK (K := K) (n := 2) rfl rfl (pgs_cons (pg_name (i := 3) sc_show_content.nd rfl (Or.inl rfl)) (pgs_cons (pg_name (i := 4) sc_show_content.nd rfl (Or.inl rfl)) pgs_nil)))) (fun _ _ _ _ _ => (pts_one (pt_cmpR op_gt (pv 3) pe_int (nomark _)))) (fun _ _ _ _ _ => (pe_joinedD (.cons (pe_fmt (pv 3)) (.cons pe_str (.cons (pe_fmt (pv 4)) .nil))))))
  (pss_one (ps_ret (pe_orT (pe_join pe_str (pv 2)) (pe_one pe_str))))), ?_⟩
    refine ⟨_, rfl, _, rfl, b, a, _, _, rfl, SqL.of hb, SqL.of ha, fun B nB => lc_it (walk_zip (K := K) (xs := cs.map V.int) (ys := xs.map V.str) rfl) (fun i H' => Same H H' ∧ H' B = some (LS (partsM xs cs i))) ⟨same_upd nB, upd_same⟩ (fun i H' _ hp => ⟨SqL.of (hp.1 _ _ hb), SqL.of (hp.1 _ _ ha)⟩) (fun i x H1 H2 hi hp hy => ?_) (fun H1 hp => ?_)⟩
    · obtain ⟨s1, hB⟩ := hp
      obtain ⟨Tt, x1, x2, rfl, nT, rfl, e1, e2⟩ := hy
      rw [List.length_map, List.length_map] at hi
      have hix : i < xs.length := by omega
      obtain ⟨n, hn, rfl⟩ := of_get_ints e1
      obtain ⟨m, hm, rfl⟩ := of_get_strs e2
      obtain ⟨f1, f2, f3⟩ := fc.at hix
      obtain ⟨g1, g2⟩ := name_at hix
      cases Option.some.inj (f1.symm.trans hn)
      cases Option.some.inj (g1.symm.trans hm)
      have hB2 := (same_upd (o := .tup [.int (cs.getD i 0), .str (xs.getD i Str.empty)]) nT) _ _ hB
      have s2 := s1.trans (same_upd (o := .tup [.int (cs.getD i 0), .str (xs.getD i Str.empty)]) nT)
      have sh := g.short _ g2
      have l1 := num1_len f2 f3
      refine ⟨Tt, _, rfl, SqT.of upd_same, rfl, _, _, rfl, _, _, rfl, rfl, rfl, _, rfl, _, _, rfl, rfl, _, rfl, ite2 (fun c => ?_) (fun c => ?_)⟩
      · have c2 : cs.getD i 0 > 0 := of_decide_eq_true c
        refine ⟨_, rfl, .inr ⟨_, rfl, small_log f2 f3, _, rfl, szL (by rw [str_nil_app]; omega), _, rfl, szL (by rw [str_nil_app, str_len_app, blank_len]; omega), _, rfl, .inl ⟨_, rfl, szL (by omega), _, rfl, szL (by rw [str_nil_app, str_len_app, str_len_app, blank_len]; omega), ?_⟩⟩⟩
        refine ⟨_, hB2, szL' (by rw [List.length_map]; have := partsM_len xs cs i; omega), sm_new s2 nB, ?_⟩
        rw [upd_same, ls_app, partsM_succ, if_pos c2, fpart f2]
        rfl
      · have c2 : ¬ cs.getD i 0 > 0 := fun z => c (decide_eq_true z)
        refine ⟨s2, ?_⟩
        rw [partsM_succ, if_neg c2, List.append_nil]
        exact hB2
    · obtain ⟨s1, hB⟩ := hp
      rw [List.length_map, List.length_map, fc.len, Nat.min_self] at hB
      have hl := partsM_len xs cs xs.length
      have pl : ∀ p ∈ partsM xs cs xs.length, p.length ≤ 10 := fun p hp => by
        obtain ⟨i, hi, _, rfl⟩ := parts_all hp
        exact partAt_len g fc hi
      have ps := parts_sum pl
      have jl := joined_len g fc
      have cl : (", " : Str).length = 2 := by decide +kernel
      unfold showM at q
      by_cases z : partsM xs cs xs.length = []
      · rw [if_pos z] at q
        rw [z] at hB
        exact ⟨⟨_, rfl⟩, _, rfl, _, B, [], rfl, rfl, .inl (SqL.of hB), by decide, false, ⟨by decide +kernel, by decide +kernel⟩, q H1 s1⟩
      · rw [if_neg z] at q
        have := joined_blank z
        have l0 : (Str.join (", " : Str) (partsM xs cs xs.length)).length ≠ 0 := fun e => by
          rw [TL.len0_tl] at e
          rw [e] at this
          cases this
        refine ⟨⟨_, rfl⟩, _, rfl, _, B, _, rfl, rfl, .inl (SqL.of hB), by rw [cl]; omega, true, ⟨szL (by rw [TL.join_eq]; omega), ?_⟩, ?_⟩
        · rw [TL.join_eq]
          symm
          simp only [bne_iff_ne, ne_eq]
          omega
        · rw [TL.join_eq]
          exact q H1 s1
end
/-! ### made_of, read_number, within_bounds -/
abbrev s_made_of : Stmt := topS 20
abbrev N_made_of : List Str := ["signs", "text", "most", "sign"]
theorem sc_made_of : FnScope N_made_of ["signs", "text", "most"] (defScope s_made_of) := ⟨rfl, rfl, rfl, by decide +kernel, rfl, by decide +kernel, by decide +kernel⟩

abbrev s_read_number : Stmt := topS 21
abbrev N_read_number : List Str := ["text", "figures"]
theorem sc_read_number : FnScope N_read_number ["text", "figures"] (defScope s_read_number) := ⟨rfl, rfl, rfl, by decide +kernel, rfl, by decide +kernel, by decide +kernel⟩

abbrev s_within_bounds : Stmt := topS 22
abbrev N_within_bounds : List Str := ["content", "many", "number"]
theorem sc_within_bounds : FnScope N_within_bounds ["content"] (defScope s_within_bounds) := ⟨rfl, rfl, rfl, by decide +kernel, rfl, by decide +kernel, by decide +kernel⟩

def madeM (z a : Str) (most : Int) : Bool := if 1 ≤ a.length ∧ (a.length : Int) ≤ most then a.cps.toList.all (fun c => decide (c ∈ z.cps.toList)) else false
def sp_made_of (T : List Addr) : Sp := fun vs H Q _ => ∃ (z a : Str) (most : Int), vs = [.str z, .str a, .int most] ∧ a.length ≤ sizeLine ∧ Tb T H ∧ ∀ H', Ext T H H' → Q (.bl (madeM z a most)) H'
def sp_read_number (T : List Addr) : Sp := fun vs H Q _ => ∃ (n k : Nat), vs = [.str (numS n), .int k] ∧ n < 10 ^ k ∧ 0 < k ∧ k ≤ 12 ∧ Tb T H ∧ ∀ H', Ext T H H' → Q (.int (n : Int)) H'
def boundM (cs : List Int) : Int := cs.foldl (fun p c => p * (c + 1)) 1
def sp_within_bounds : Sp := fun vs H Q _ => ∃ (a : Addr) (cs : List Int), vs = [.ref a] ∧ H a = some (LI cs) ∧ (∀ c ∈ cs, 0 ≤ c ∧ c ≤ 9) ∧ cs.length ≤ 4 ∧ Q (.bl (decide (boundM cs ≤ 400))) H
section
variable {P : Program} {w : World} {K : PySem.W.Frag} {mg : Str → Option Value} {base : Heap} {T : List Addr}
theorem ok_made_of {f c t : Addr} {fd : FuncData} {k : Nat} (M : Names mg) (D : Def K mg "made_of" s_made_of ["signs", "text", "most"] f fd) (hc : fd.code = .ref c) (TB : GxR.TabB base mg c t) (ht : t ∈ T) : FnOk P w K mg base CX0 (k + 1) f fd ["signs", "text", "most"] (sp_made_of T) := by
  refine okc D.F hc sc_made_of (fun vs H Q E h => ?_) (fun cdv A outer s H vs Q E ec hr h => ?_)
  · obtain ⟨z, a, most, rfl, _⟩ := h
    rfl
  · obtain ⟨z, a, most, rfl, hl, hT, q⟩ := h
    refine ⟨_, (pss_one (ps_ret (pe_and (pe_chain op_le op_le pe_int (pe_callB call_len_str (by rfl) M.len (by decide +kernel) (pa_cons (pv 1) pa_nil)) (pv 2)) (pe_one (pe_allIn (i := 0) hr (by rfl) M.all (by decide +kernel) TB ec ⟨rfl, rfl, by decide +kernel, rfl, rfl, (by show ∀ y : Str × NameKind, y ∈ _ → y.2 = .free → (defScope s_made_of).names.lookup y.1 = some .cell; decide +kernel)⟩ (pv 1) rfl rfl rfl (fun cc h => by show some (((envOfC "made_of" (defScope s_made_of) s.heap.objs.size f cdv).cells.lookup ("signs" : Str)).getD 0) = some cc; rw [show (envOfC "made_of" (defScope s_made_of) s.heap.objs.size f cdv).cells.lookup ("signs" : Str) = some cc from h]; rfl) (by decide) (by decide) (by decide)))))), ?_⟩
    unfold madeM at q
    by_cases h1 : 1 ≤ a.length
    · by_cases h2 : (a.length : Int) ≤ most
      · rw [if_pos ⟨h1, h2⟩] at q
        refine ⟨_, rfl, _, rfl, hl, _, _, rfl, rfl, true, (by show V.bl _ = V.bl _; rw [decide_eq_true (by omega)]), _, rfl, _, _, rfl, rfl, true, (by show V.bl _ = V.bl _; rw [decide_eq_true h2]), ?_⟩
        exact ⟨_, rfl, a, z, rfl, rfl, hT t ht, fun H2 t2 => q H2 (.tabbed hT t2 ht)⟩
      · rw [if_neg (fun z => h2 z.2)] at q
        exact ⟨_, rfl, _, rfl, hl, _, _, rfl, rfl, true, (by show V.bl _ = V.bl _; rw [decide_eq_true (by omega)]), _, rfl, _, _, rfl, rfl, false, (by show V.bl _ = V.bl _; rw [decide_eq_false h2]), q H (.refl hT)⟩
    · rw [if_neg (fun z => h1 z.1)] at q
      exact ⟨_, rfl, _, rfl, hl, _, _, rfl, rfl, false, (by show V.bl _ = V.bl _; rw [decide_eq_false (by omega)]), false, rfl, q H (.refl hT)⟩
theorem made_num {n k : Nat} (hk : 0 < k) (h : n < 10 ^ k) : madeM ("0123456789" : Str) (numS n) k = true := by
  unfold madeM
  have l1 := numL_pos n
  have l2 := TL.numL_len hk h
  rw [if_pos (by rw [numS_len]; exact ⟨l1, by omega⟩)]
  have := numL_figs n
  rw [← tl_numS] at this
  exact this
theorem ok_read_number {f f1 c t : Addr} {fd fd1 : FuncData} {k : Nat} (M : Names mg) (D : Def K mg "read_number" s_read_number ["text", "figures"] f fd) (D_made_of : Def K mg "made_of" s_made_of ["signs", "text", "most"] f1 fd1) (hc : fd1.code = .ref c) (TB : GxR.TabB base mg c t) (ht : t ∈ T) : FnOk P w K mg base CX0 (k + 2) f fd ["text", "figures"] (sp_read_number T) := by
  have G_made_of : FnOk P w K mg base CX0 (k + 1) f1 fd1 ["signs", "text", "most"] (sp_made_of T) := ok_made_of M D_made_of hc TB ht
  obtain ⟨tF, m_FIGURES⟩ := M.c_FIGURES
  refine D.F.ok sc_read_number (fun vs H Q E h => ?_) (fun cdv A outer s H vs Q E hr h => ?_)
  · obtain ⟨n, k, rfl, _⟩ := h
    rfl
  · obtain ⟨n, k, rfl, hn, hk, hk2, hT, q⟩ := h
    have l1 := numL_pos n
    have l2 := TL.numL_len hk hn
    have ln := numS_len n
    refine ⟨_, (pss_cons (ps_if (PW.pt (pw_or (pt_not (pt_val (pe_call G_made_of hr (by rfl) D_made_of.g D_made_of.F.kp D_made_of.b .nil pass0 (pa_cons (pe_glob (v := .str "0123456789") (by rfl) m_FIGURES ⟨_, rfl⟩) (pa_cons (pv 0) (pa_cons (pv 1) pa_nil)))))) (pw_or1 (PW.pt (pw_and (pt_cmpR op_eq (pe_ix ix_str (pv 0) pe_int (fun _ _ => rfl)) pe_str (nomark _)) (pw_and1 (pt_cmpR op_ne (pv 0) pe_str (nomark _))))))))
   (pss_one ps_never)
   pss_nil)
  (pss_one (ps_ret (pe_callTy call_int_str (by rfl) M.int (by decide +kernel) (pa_cons (pv 0) pa_nil))))), ?_⟩
    refine ⟨_, rfl, _, rfl, _, _, _, rfl, szL (by omega), hT, fun H1 e1 => ?_⟩
    rw [made_num hk hn]
    have fin : intText? (numS n) = some (n : Int) := TL.int_num (by omega)
    have last : ∀ {Q' : V → Hp → Prop}, Q' (.int (n : Int)) H1 → ∃ a m, [V.str (numS n)] = [.str a] ∧ PySem.intText? a = some m ∧ a.length ≤ 640 ∧ Q' (.int m) H1 := fun h => ⟨_, _, rfl, fin, by omega, h⟩
    by_cases z : n = 0
    · subst z
      refine ⟨true, rfl, _, rfl, _, _, 48, rfl, rfl, szL (by omega), by decide +kernel, rfl, true, by decide +kernel, _, rfl, rfl, false, by decide +kernel, _, rfl, last (q H1 e1)⟩
    · obtain ⟨c0, r, e0, n0⟩ := numL_head n (by omega)
      have ht0 : (numS n).cps.toList = c0 :: r := (tl_numS n).trans e0
      refine ⟨true, rfl, _, rfl, _, _, c0, rfl, rfl, szL (by omega), by rw [ht0]; exact atI_nat (j := 0) rfl, rfl, false, ?_, _, rfl, last (q H1 e1)⟩
      refine congrArg V.bl (decide_eq_false fun z2 => n0 ?_)
      have z3 := V.str.inj z2
      have z4 : TL.tl (⟨#[c0]⟩ : Str) = TL.tl ("0" : Str) := congrArg TL.tl z3
      rw [show TL.tl ("0" : Str) = [48] by decide +kernel] at z4
      exact (List.cons.inj z4).1
theorem ok_within_bounds {f : Addr} {fd : FuncData} {k : Nat} (M : Names mg) (D : Def K mg "within_bounds" s_within_bounds ["content"] f fd) : FnOk P w K mg base CX0 (k + 1) f fd ["content"] sp_within_bounds := by
  obtain ⟨tF, m_MOST_LESSER⟩ := M.c_MOST_LESSER
  refine D.F.ok sc_within_bounds (fun vs H Q E h => ?_) (fun cdv A outer s H vs Q E hr h => ?_)
  · obtain ⟨a, cs, rfl, _⟩ := h
    rfl
  · obtain ⟨a, cs, rfl, ha, sm, hl, q⟩ := h
    refine ⟨_, (pss_cons (ps_set (i := 1) sc_within_bounds.nd rfl (Or.inl rfl) pe_int)
  (pss_cons (ps_for PassesOwn.never rfl (pi_list (pv 0)) (pg_name (i := 2) sc_within_bounds.nd rfl (Or.inl rfl))
   (pss_one (ps_aug (i := 1) sc_within_bounds.nd rfl (Or.inl rfl) (pe_op op_add (pv 2) pe_int) iop_mul)))
  (pss_one (ps_ret (pe_cmpR op_le (pv 1) (pe_glob (v := .int 400) (by rfl) m_MOST_LESSER ⟨_, rfl⟩) (nomark _)))))), ?_⟩
    refine ⟨_, rfl, a, rfl, ⟨_, SqL.of ha⟩, for_list (xs := cs.map V.int) (fun i σ H' => ∃ y2, σ = [some (.ref a), some (.int (boundM (cs.take i))), y2] ∧ H' = H) ⟨none, rfl, rfl⟩ (fun i σ H' _ hp => ?_) (fun i x σ H' hx hp => ?_) (fun σ H' hp => ?_)⟩
    · obtain ⟨_, _, rfl⟩ := hp
      exact SqL.of ha
    · obtain ⟨y2, rfl, rfl⟩ := hp
      obtain ⟨n, hn, rfl⟩ := of_get_ints hx
      have := sm n (List.mem_of_getElem? hn)
      refine ⟨_, rfl, _, rfl, _, _, rfl, rfl, _, _, rfl, rfl, (.inr ⟨by omega, by omega⟩), some (.int n), ?_, rfl⟩
      rw [take_succ_at hn]
      unfold boundM
      rw [List.foldl_append]
      rfl
    · obtain ⟨y2, rfl, rfl⟩ := hp
      rw [List.length_map, List.take_length]
      exact ⟨_, rfl, _, _, rfl, rfl, q⟩
end
/-! ### read_thing, read_content -/
abbrev s_read_thing : Stmt := topS 23
abbrev N_read_thing : List Str := ["names", "text", "figures", "blank", "name"]
theorem sc_read_thing : FnScope N_read_thing ["names", "text"] (defScope s_read_thing) := ⟨rfl, rfl, rfl, by decide +kernel, rfl, by decide +kernel, by decide +kernel⟩

abbrev s_read_content : Stmt := topS 24
abbrev N_read_content : List Str := ["names", "text", "content", "part", "number", "thing"]
theorem sc_read_content : FnScope N_read_content ["names", "text"] (defScope s_read_content) := ⟨rfl, rfl, rfl, by decide +kernel, rfl, by decide +kernel, by decide +kernel⟩

theorem inV_strs (x : Str) : ∀ xs : List Str, inV (.str x) (xs.map V.str) = decide (x ∈ xs)
  | [] => rfl
  | y :: r => by
    have ih := inV_strs x r
    unfold inV at ih ⊢
    rw [List.map_cons, List.any_cons, ih]
    show ((y == x) || decide (x ∈ r)) = decide (x ∈ y :: r)
    by_cases h : y = x
    · subst h
      simp
    · have h2 : ¬ x = y := fun z => h z.symm
      simp [h, h2]
theorem flat_strs (xs : List Str) : (xs.map V.str).all flatV = true := by
  rw [List.all_eq_true]
  intro v hv
  obtain ⟨x, _, rfl⟩ := List.mem_map.mp hv
  rfl
theorem nodup_at {xs : List Str} (nd : xs.Nodup) {i : Nat} {x : Str} (h : xs[i]? = some x) : ∀ (m : Nat) (z : V), m < i → (xs.map V.str)[m]? = some z → eqV z (.str x) = false := fun m z hm hz => by
  obtain ⟨y, hy, rfl⟩ := of_get_strs hz
  show (y == x) = false
  refine beq_eq_false_iff_ne.mpr fun e => ?_
  subst e
  have h1 := (List.getElem?_eq_some_iff.mp h)
  have h2 := (List.getElem?_eq_some_iff.mp hy)
  obtain ⟨l1, e1⟩ := h1
  obtain ⟨l2, e2⟩ := h2
  exact List.pairwise_iff_getElem.mp nd m i l2 l1 hm (e2.trans e1.symm)
theorem zeros_map (n : Nat) : (List.replicate n [V.int 0]).flatten = (List.replicate n (0 : Int)).map V.int := by
  induction n with
  | zero => rfl
  | succ n ih =>
    rw [List.replicate_succ, List.flatten_cons, ih, List.replicate_succ, List.map_cons]
    rfl
theorem parts_nil {xs : List Str} {cs : List Int} (fc : FitC xs cs) (h : partsM xs cs xs.length = []) : cs = List.replicate xs.length 0 := by
  unfold partsM at h
  have h0 := List.map_eq_nil_iff.mp h
  refine List.ext_getElem (by rw [fc.len, List.length_replicate]) fun i h1 h2 => ?_
  rw [List.getElem_replicate]
  have hi : i < xs.length := by rw [← fc.len]; exact h1
  obtain ⟨f1, f2, f3⟩ := fc.at hi
  have e := (List.getElem?_eq_some_iff.mp f1).2
  rw [e]
  by_cases z : 0 < cs.getD i 0
  · have := idxs_mem.mpr ⟨hi, z⟩
    rw [h0] at this
    cases this
  · omega
def sp_read_thing (T : List Addr) : Sp := fun vs H Q _ => ∃ (a : Addr) (xs : List Str) (i n : Nat) (x : Str), vs = [.ref a, .str (partS n x)] ∧ H a = some (LS xs) ∧ GoodN xs ∧ xs[i]? = some x ∧ n < 10 ∧ Tb T H ∧
  ∀ H' t, Ext T H H' → H t = none → H' t = some (.tup [.int (i : Nat), .int (n : Nat)]) → Q (.ref t) H'
def sp_read_content (T : List Addr) : Sp := fun vs H Q _ => ∃ (a : Addr) (xs : List Str) (cs : List Int), vs = [.ref a, .str (showM xs cs)] ∧ H a = some (LS xs) ∧ GoodN xs ∧ FitC xs cs ∧ boundM cs ≤ 400 ∧ Tb T H ∧
  ∀ H' p, Ext T H H' → H p = none → H' p = some (LI cs) → Q (.ref p) H'
section
variable {P : Program} {w : World} {K : PySem.W.Frag} {mg : Str → Option Value} {base : Heap} {T : List Addr}
theorem ok_read_thing {f f1 f2 c t : Addr} {fd fd1 fd2 : FuncData} {k : Nat} (M : Names mg) (D : Def K mg "read_thing" s_read_thing ["names", "text"] f fd) (D_read_number : Def K mg "read_number" s_read_number ["text", "figures"] f1 fd1) (D_made_of : Def K mg "made_of" s_made_of ["signs", "text", "most"] f2 fd2) (hc : fd2.code = .ref c) (TB : GxR.TabB base mg c t) (ht : t ∈ T) : FnOk P w K mg base CX0 (k + 3) f fd ["names", "text"] (sp_read_thing T) := by
  have G_read_number : FnOk P w K mg base CX0 (k + 2) f1 fd1 ["text", "figures"] (sp_read_number T) := ok_read_number M D_read_number D_made_of hc TB ht
  obtain ⟨tF, m_THING_FIGURES⟩ := M.c_THING_FIGURES
  refine D.F.ok sc_read_thing (fun vs H Q E h => ?_) (fun cdv A outer s H vs Q E hr h => ?_)
  · obtain ⟨a, xs, i, n, x, rfl, _⟩ := h
    rfl
  · obtain ⟨a, xs, i, n, x, rfl, ha, g, hx, hn, hT, q⟩ := h
    have mx := List.mem_of_getElem? hx
    have sh := g.short _ mx
    have l2 := TL.numL_len (n := n) (k := 1) (by decide) (by omega)
    have lp : (partS n x).length ≤ 10 := by
      unfold partS
      rw [str_len_app, str_len_app, numS_len, blank_len]
      omega
    refine ⟨_, (pss_cons (ps_asg (pe_partition (pv 1) pe_str) (pg_tup rfl (pgs_cons (pg_name (i := 2) sc_read_thing.nd rfl (Or.inl rfl)) (pgs_cons (pg_name (i := 3) sc_read_thing.nd rfl (Or.inl rfl)) (pgs_cons (pg_name (i := 4) sc_read_thing.nd rfl (Or.inl rfl)) pgs_nil)))))
  (pss_cons (ps_if (pt_cmpR op_notIn_seq (pv 4) (pv 0) (by rfl))
   (pss_one ps_never)
   pss_nil)
  (pss_one (ps_ret (pe_tup (pa_cons (pe_bm PySem.F.plainAttrs_list PySem.F.slot_list_index PySem.F.type_list_index mt_index (pv 0) (pa_cons (pv 4) pa_nil)) (pa_cons (pe_call G_read_number hr (by rfl) D_read_number.g D_read_number.F.kp D_read_number.b .nil pass0 (pa_cons (pv 2) (pa_cons (pe_glob (v := .int 1) (by rfl) m_THING_FIGURES ⟨_, rfl⟩) pa_nil))) pa_nil))))))), ?_⟩
    refine ⟨_, rfl, ⟨_, rfl⟩, _, _, rfl, rfl, by decide +kernel, szL (by omega), fun p np => ?_⟩
    rw [part_cut]
    have s1 := same_upd (o := .tup [.str (numS n), .str (" " : Str), .str x]) np
    have a1 := s1 _ _ ha
    refine ⟨p, _, rfl, SqT.of upd_same, rfl, _, _, rfl, _, _, rfl, _, _, rfl, rfl, ?_⟩
    have E1 : Ext T H _ := .same s1 hT
    generalize upd H p (.tup [.str (numS n), .str (" " : Str), .str x]) = H1 at s1 a1 E1 ⊢
    refine ⟨_, rfl, _, rfl, a, _, rfl, .inl (SqL.of a1), rfl, flat_strs xs, false, ?_, ?_⟩
    · show V.bl (!inV (.str x) (xs.map V.str)) = V.bl false
      rw [inV_strs, decide_eq_true mx]
      rfl
    refine ⟨_, rfl, .inl ⟨rfl, _, SqL.of a1⟩, _, rfl, a, _, _, i, _, rfl, rfl, SqL.of a1, rfl, flat_strs xs, get_strs hx, beq_self_eq_true x, nodup_at g.nd hx, ?_⟩
    refine ⟨_, rfl, n, 1, rfl, by omega, by decide, by decide, E1.t1, fun H2 e2 => ⟨by show 2 ≤ sizeLine; decide, fun t nt => ?_⟩⟩
    have E2 := E1.trans e2
    exact q _ t (E2.new (E2.free _ nt)) (E2.free _ nt) upd_same
theorem ok_read_content {f f1 f2 f3 f4 f5 c t : Addr} {fd fd1 fd2 fd3 fd4 fd5 : FuncData} {k : Nat} (M : Names mg) (D : Def K mg "read_content" s_read_content ["names", "text"] f fd) (D_read_thing : Def K mg "read_thing" s_read_thing ["names", "text"] f3 fd3) (D_show_content : Def K mg "show_content" s_show_content ["names", "content"] f4 fd4) (D_within_bounds : Def K mg "within_bounds" s_within_bounds ["content"] f5 fd5) (D_read_number : Def K mg "read_number" s_read_number ["text", "figures"] f1 fd1) (D_made_of : Def K mg "made_of" s_made_of ["signs", "text", "most"] f2 fd2) (hc : fd2.code = .ref c) (TB : GxR.TabB base mg c t) (ht : t ∈ T) : FnOk P w K mg base CX0 (k + 4) f fd ["names", "text"] (sp_read_content T) := by
  have G_read_thing : FnOk P w K mg base CX0 (k + 3) f3 fd3 ["names", "text"] (sp_read_thing T) := ok_read_thing M D_read_thing D_read_number D_made_of hc TB ht
  have G_show_content : FnOk P w K mg base CX0 (k + 3) f4 fd4 ["names", "content"] (sp_show_content K) := ok_show_content M D_show_content
  have G_within_bounds : FnOk P w K mg base CX0 (k + 3) f5 fd5 ["content"] sp_within_bounds := ok_within_bounds M D_within_bounds
  refine D.F.ok sc_read_content (fun vs H Q E h => ?_) (fun cdv A outer s H vs Q E hr h => ?_)
  · obtain ⟨a, xs, cs, rfl, _⟩ := h
    rfl
  · obtain ⟨a, xs, cs, rfl, ha, g, fc, hb, hT, q⟩ := h
    have few := g.few
    have jl := joined_len g fc
    refine ⟨_, (pss_cons (ps_set (i := 2) sc_read_content.nd rfl (Or.inl rfl) (pe_op op_rep (pe_lst (pa_cons pe_int pa_nil)) (pe_callB call_len_seq (by rfl) M.len (by decide +kernel) (pa_cons (pv 0) pa_nil))))
  (pss_cons (ps_if (pt_cmpR op_eq (pv 1) pe_str (nomark _))
   (pss_one (ps_ret (pv 2)))
   pss_nil)
  (pss_cons (ps_for PassesOwn.never rfl (pi_list (pe_split (pv 1) pe_str)) (pg_name (i := 3) sc_read_content.nd rfl (Or.inl rfl))
   (pss_cons (ps_asg (pe_call G_read_thing hr (by rfl) D_read_thing.g D_read_thing.F.kp D_read_thing.b .nil pass0 (pa_cons (pv 0) (pa_cons (pv 3) pa_nil))) (pg_tup rfl (pgs_cons (pg_name (i := 5) sc_read_content.nd rfl (Or.inl rfl)) (pgs_cons (pg_name (i := 4) sc_read_content.nd rfl (Or.inl rfl)) pgs_nil))))
  (pss_one (ps_asg (pv 4) (pg_sub (pv 2) (pv 5) set_list)))))
  (pss_cons (ps_if (PW.pt (pw_or (pt_cmpR op_ne (pe_call G_show_content hr (by rfl) D_show_content.g D_show_content.F.kp D_show_content.b .nil pass0 (pa_cons (pv 0) (pa_cons (pv 2) pa_nil))) (pv 1) (nomark _)) (pw_or1 (pt_not (pt_val (pe_call G_within_bounds hr (by rfl) D_within_bounds.g D_within_bounds.F.kp D_within_bounds.b .nil pass0 (pa_cons (pv 2) pa_nil)))))))
   (pss_one ps_never)
   pss_nil)
  (pss_one (ps_ret (pv 2))))))), ?_⟩
    refine ⟨by show 1 ≤ sizeLine; decide, fun l nl => ?_⟩
    have s1 := same_upd (o := .lst [V.int 0]) nl
    refine ⟨_, rfl, a, _, rfl, .inl (SqL.of (s1 _ _ ha)), l, _, _, rfl, rfl, upd_same, by omega, by rw [List.length_map]; omega, szL (by rw [List.length_map]; show 1 * ((xs.length : Nat) : Int).toNat ≤ _; omega), fun B nB => ?_⟩
    have s2 := s1.trans (same_upd (o := .lst (List.replicate ((((xs.map V.str).length : Nat) : Int)).toNat [V.int 0]).flatten) nB)
    have hB : upd (upd H l (.lst [V.int 0])) B (.lst (List.replicate ((((xs.map V.str).length : Nat) : Int)).toNat [V.int 0]).flatten) B = some (LI (List.replicate xs.length 0)) := by
      rw [upd_same, zeros_map, Int.toNat_natCast, List.length_map]
    have nB0 : H B = none := s1.free nB
    generalize upd (upd H l (.lst [V.int 0])) B (.lst (List.replicate ((((xs.map V.str).length : Nat) : Int)).toNat [V.int 0]).flatten) = H1 at s2 hB ⊢
    have E1 : Ext T H H1 := .same s2 hT
    by_cases z : partsM xs cs xs.length = []
    · have e0 : showM xs cs = ("nothing" : Str) := by unfold showM; rw [if_pos z]
      rw [e0]
      refine ⟨_, rfl, rfl, true, by decide +kernel, _, rfl, ?_⟩
      rw [← parts_nil fc z] at hB
      exact q H1 B E1 nB0 hB
    · have e0 : showM xs cs = Str.join (", " : Str) (partsM xs cs xs.length) := by unfold showM; rw [if_neg z]
      have ne0 := joined_other z
      refine ⟨_, rfl, rfl, false, congrArg V.bl (decide_eq_false fun z2 => ?_), ?_⟩
      · have z3 := V.str.inj z2
        rw [e0] at z3
        exact ne0 z3
      refine ⟨_, rfl, ⟨_, rfl⟩, _, _, rfl, rfl, by decide +kernel, szL (by rw [e0]; omega), fun L nL => ?_⟩
      have sp : Txt.split (showM xs cs) (", " : Str) = partsM xs cs xs.length := by rw [e0]; exact join_split g z
      rw [sp]
      have hL : upd H1 L (.lst ((partsM xs cs xs.length).map V.str)) L = some (LS (partsM xs cs xs.length)) := upd_same
      have hB1 := (same_upd (o := .lst ((partsM xs cs xs.length).map V.str)) nL) _ _ hB
      have nL0 : H L = none := E1.free _ nL
      have neLB : L ≠ B := fun e => by rw [e, hB] at nL; cases nL
      have E2 : Ext T H _ := E1.new (o := .lst ((partsM xs cs xs.length).map V.str)) nL0
      generalize upd H1 L (.lst ((partsM xs cs xs.length).map V.str)) = H2 at hL hB1 E2 ⊢
      refine ⟨L, rfl, ⟨_, SqL.of hL⟩, for_list (xs := (partsM xs cs xs.length).map V.str) (fun j σ H' => ∃ y3 y4 y5, σ = [some (.ref a), some (.str (showM xs cs)), some (.ref B), y3, y4, y5] ∧ Ext T H H' ∧ H' L = some (LS (partsM xs cs xs.length)) ∧ ∃ ls : List Int, H' B = some (LI ls) ∧ ls.length = xs.length ∧ ∀ i, i < xs.length → ls[i]? = some (if i ∈ (idxs cs xs.length).take j then cs.getD i 0 else 0)) ⟨none, none, none, rfl, E2, hL, _, hB1, List.length_replicate, fun i hi => ?_⟩ (fun i σ H' _ hp => ?_) (fun j x σ H' hx hp => ?_) (fun σ H' hp => ?_)⟩
      · rw [List.take_zero, if_neg (by simp), List.getElem?_replicate, if_pos hi]
      · obtain ⟨_, _, _, _, _, h, _⟩ := hp
        exact SqL.of h
      · obtain ⟨y3, y4, y5, rfl, E3, hL3, ls, hB3, hls, hat⟩ := hp
        obtain ⟨p, hp, rfl⟩ := of_get_strs hx
        have hpl : j < (partsM xs cs xs.length).length := (List.getElem?_eq_some_iff.mp hp).1
        obtain ⟨i, hi, ei⟩ : ∃ i, (idxs cs xs.length)[j]? = some i ∧ partAt xs cs i = p := by
          unfold partsM at hp
          rw [List.getElem?_map] at hp
          cases e : (idxs cs xs.length)[j]? with
          | none => rw [e] at hp; cases hp
          | some i => rw [e] at hp; exact ⟨i, rfl, Option.some.inj hp⟩
        obtain ⟨i1, i2⟩ := idxs_mem.mp (List.mem_of_getElem? hi)
        obtain ⟨f1, f2, f3⟩ := fc.at i1
        obtain ⟨g1, g2⟩ := name_at i1
        subst ei
        refine ⟨_, rfl, _, rfl, a, xs, i, (cs.getD i 0).toNat, xs.getD i Str.empty, rfl, E3.lst ha, g, g1, by omega, E3.t1, fun H4 tp e4 nt htp => ?_⟩
        refine ⟨tp, _, rfl, SqT.of htp, rfl, _, _, rfl, _, _, rfl, rfl, ?_⟩
        have hB4 := e4.lst hB3
        have hL4 := e4.lst hL3
        refine ⟨_, rfl, _, rfl, _, rfl, B, _, _, i, rfl, rfl, hB4, ixN_nat (by rw [List.length_map]; omega), ?_⟩
        refine ⟨_, _, _, rfl, (E3.trans e4).new nB0, ?_, ls.set i (cs.getD i 0), ?_, by rw [List.length_set]; exact hls, fun i' hi' => ?_⟩
        · rw [upd_ne neLB]
          exact hL4
        · have : (((cs.getD i 0).toNat : Nat) : Int) = cs.getD i 0 := by omega
          rw [this]
          exact at_set
        · rw [take_succ_at hi]
          by_cases e : i' = i
          · subst e
            rw [List.getElem?_set_self (by omega), if_pos (List.mem_append.mpr (.inr List.mem_cons_self))]
          · rw [List.getElem?_set_ne (fun z => e z.symm), hat i' hi']
            by_cases m : i' ∈ (idxs cs xs.length).take j
            · rw [if_pos m, if_pos (List.mem_append.mpr (.inl m))]
            · rw [if_neg m, if_neg fun z => ?_]
              rcases List.mem_append.mp z with z | z
              · exact m z
              · exact e (List.mem_singleton.mp z)
      · obtain ⟨y3, y4, y5, rfl, E3, hL3, ls, hB3, hls, hat⟩ := hp
        have els : ls = cs := by
          refine List.ext_getElem (by rw [hls, fc.len]) fun i h1 h2 => ?_
          have hi : i < xs.length := by omega
          have h3 := hat i hi
          obtain ⟨f1, f2, f3⟩ := fc.at hi
          rw [List.length_map, List.take_of_length_le (by unfold partsM; rw [List.length_map]; exact Nat.le_refl _)] at h3
          rw [List.getElem?_eq_getElem h1] at h3
          rw [List.getElem?_eq_getElem h2] at f1
          have e3 := Option.some.inj h3
          have e1 := Option.some.inj f1
          rw [e3]
          by_cases m : i ∈ idxs cs xs.length
          · rw [if_pos m, e1]
          · rw [if_neg m, e1]
            have : ¬ 0 < cs.getD i 0 := fun z => m (idxs_mem.mpr ⟨hi, z⟩)
            omega
        subst els
        refine ⟨_, rfl, _, rfl, a, B, xs, ls, rfl, E3.lst ha, hB3, g, fc, fun H4 s4 => ?_⟩
        have E4 : Ext T H H4 := E3.trans (.same s4 E3.t1)
        refine ⟨_, rfl, rfl, false, by simp, _, rfl, B, ls, rfl, s4 _ _ hB3, fc.small, by rw [hls]; exact few, true, by rw [decide_eq_true hb], ?_⟩
        exact ⟨_, rfl, q H4 B E4 nB0 (s4 _ _ hB3)⟩
end
/-! ### lines, as lists -/
/-- place by place -/
def Al {α : Type} (R : Addr → α → Prop) : List Addr → List α → Prop
  | [], [] => True
  | a :: as, x :: xs => R a x ∧ Al R as xs
  | _, _ => False
section
variable {α : Type} {R R' : Addr → α → Prop}
theorem Al.len : ∀ {as : List Addr} {xs : List α}, Al R as xs → as.length = xs.length
  | [], [], _ => rfl
  | [], _ :: _, h => h.elim
  | _ :: _, [], h => h.elim
  | _ :: _, _ :: _, h => by rw [List.length_cons, List.length_cons, Al.len h.2]
theorem Al.app : ∀ {as bs : List Addr} {xs ys : List α}, Al R as xs → Al R bs ys → Al R (as ++ bs) (xs ++ ys)
  | [], _, [], _, _, k => k
  | [], _, _ :: _, _, h, _ => h.elim
  | _ :: _, _, [], _, h, _ => h.elim
  | _ :: _, _, _ :: _, _, h, k => ⟨h.1, Al.app h.2 k⟩
theorem Al.imp (f : ∀ a x, R a x → R' a x) : ∀ {as : List Addr} {xs : List α}, Al R as xs → Al R' as xs
  | [], [], _ => True.intro
  | [], _ :: _, h => h.elim
  | _ :: _, [], h => h.elim
  | _ :: _, _ :: _, h => ⟨f _ _ h.1, Al.imp f h.2⟩
theorem Al.impM : ∀ {as : List Addr} {xs : List α}, (∀ a x, a ∈ as → R a x → R' a x) → Al R as xs → Al R' as xs
  | [], [], _, _ => True.intro
  | [], _ :: _, _, h => h.elim
  | _ :: _, [], _, h => h.elim
  | _ :: _, _ :: _, f, h => ⟨f _ _ List.mem_cons_self h.1, Al.impM (fun a x m => f a x (List.mem_cons_of_mem _ m)) h.2⟩
theorem Al.get : ∀ {as : List Addr} {xs : List α} {i : Nat} {a : Addr}, Al R as xs → as[i]? = some a → ∃ x, xs[i]? = some x ∧ R a x
  | [], [], _, _, _, e => by simp at e
  | [], _ :: _, _, _, h, _ => h.elim
  | _ :: _, [], _, _, h, _ => h.elim
  | _ :: _, x :: _, 0, _, h, e => by cases Option.some.inj e; exact ⟨x, rfl, h.1⟩
  | _ :: _, _ :: _, i + 1, _, h, e => Al.get (i := i) h.2 e
theorem Al.drop1 : ∀ {as : List Addr} {xs : List α}, Al R as xs → Al R (as.drop 1) xs.tail
  | [], [], _ => True.intro
  | [], _ :: _, h => h.elim
  | _ :: _, [], h => h.elim
  | _ :: _, _ :: _, h => h.2
theorem Al.one {a : Addr} {x : α} (h : R a x) : Al R [a] [x] := ⟨h, True.intro⟩
end
/-- a new list of ints, apart from C -/
def RowB (H0 H : Hp) (C : Addr) (a : Addr) (r : List Int) : Prop := H a = some (LI r) ∧ H0 a = none ∧ a ≠ C
def RowF (H0 H : Hp) (a : Addr) (r : List Int) : Prop := H a = some (LI r) ∧ H0 a = none
theorem RowB.keep {H0 H H' : Hp} {C a : Addr} {r : List Int} (s : SameBut C H H') (h : RowB H0 H C a r) : RowB H0 H' C a r := ⟨s _ _ h.2.2 h.1, h.2⟩
theorem RowF.keep {H0 H H' : Hp} {a : Addr} {r : List Int} (s : Same H H') (h : RowF H0 H a r) : RowF H0 H' a r := ⟨s _ _ h.1, h.2⟩
theorem RowB.toF {H0 H : Hp} {C a : Addr} {r : List Int} (h : RowB H0 H C a r) : RowF H0 H a r := ⟨h.1, h.2.1⟩
structure Ln where
  p : Int
  c : Int
  as : List Int
/-- a line, its tuple and its list new -/
def LineF (H0 H : Hp) (a : Addr) (l : Ln) : Prop := ∃ b, H a = some (.tup [.int l.p, .int l.c, .ref b]) ∧ H b = some (LI l.as) ∧ H0 a = none ∧ H0 b = none
def LineB (H0 H : Hp) (B : Addr) (a : Addr) (l : Ln) : Prop := ∃ b, H a = some (.tup [.int l.p, .int l.c, .ref b]) ∧ H b = some (LI l.as) ∧ H0 a = none ∧ H0 b = none ∧ a ≠ B ∧ b ≠ B
theorem LineB.keep {H0 H H' : Hp} {B a : Addr} {l : Ln} (s : SameBut B H H') (h : LineB H0 H B a l) : LineB H0 H' B a l := by
  obtain ⟨b, h1, h2, h3, h4, h5, h6⟩ := h
  exact ⟨b, s _ _ h5 h1, s _ _ h6 h2, h3, h4, h5, h6⟩
theorem LineB.toF {H0 H : Hp} {B a : Addr} {l : Ln} (h : LineB H0 H B a l) : LineF H0 H a l := by
  obtain ⟨b, h1, h2, h3, h4, _⟩ := h
  exact ⟨b, h1, h2, h3, h4⟩
theorem LineF.toB {H0 H1 H : Hp} {B a : Addr} {l : Ln} (h : LineF H1 H a l) (f : ∀ b, H1 b = none → H0 b = none) (hB : H1 B ≠ none) : LineB H0 H B a l := by
  obtain ⟨b, h1, h2, h3, h4⟩ := h
  exact ⟨b, h1, h2, f _ h3, f _ h4, fun z => hB (by rw [← z]; exact h3), fun z => hB (by rw [← z]; exact h4)⟩
def LinesF (H0 H : Hp) (q : Addr) (ls : List Ln) : Prop := ∃ as : List Addr, H q = some (.lst (as.map V.ref)) ∧ Al (LineF H0 H) as ls
def isAdd (os : List Ofr) (p : Int) (i : Nat) : Bool := match os[i]? with
  | some (.add _ _ k) => decide (k = p)
  | _ => false
def addsN (os : List Ofr) (p : Int) (n : Nat) : List Int := ((List.range n).filter (isAdd os p)).map fun (i : Nat) => (i : Int)
def addsM (os : List Ofr) (p : Int) : List Int := addsN os p os.length
theorem addsN_len (os : List Ofr) (p : Int) (n : Nat) : (addsN os p n).length ≤ n := by
  unfold addsN
  rw [List.length_map]
  exact Nat.le_trans (List.length_filter_le _ _) (by rw [List.length_range]; exact Nat.le_refl _)
theorem addsN_yes {os : List Ofr} {p : Int} {n : Nat} (h : isAdd os p n = true) : addsN os p (n + 1) = addsN os p n ++ [(n : Int)] := by
  unfold addsN
  rw [List.range_succ, List.filter_append, List.map_append]
  simp [h]
theorem addsN_no {os : List Ofr} {p : Int} {n : Nat} (h : isAdd os p n = false) : addsN os p (n + 1) = addsN os p n := by
  unfold addsN
  rw [List.range_succ, List.filter_append, List.map_append]
  simp [h]
def choicesM : List Int → List (List Int)
  | [] => [[]]
  | p :: ps => ([[]] ++ (choicesM ps).map (p :: ·)) ++ (choicesM ps).tail
theorem choicesM_len : ∀ ps : List Int, (choicesM ps).length = 2 ^ ps.length
  | [] => rfl
  | p :: ps => by
    have ih := choicesM_len ps
    have pos : 0 < 2 ^ ps.length := Nat.pow_pos (by decide)
    show (([[]] ++ (choicesM ps).map (p :: ·)) ++ (choicesM ps).tail).length = 2 ^ (ps.length + 1)
    rw [List.length_append, List.length_append, List.length_map, List.length_tail, ih, Nat.pow_succ]
    show 1 + 2 ^ ps.length + (2 ^ ps.length - 1) = _
    omega
theorem choicesM_le {ps : List Int} (h : ps.length ≤ 8) : (choicesM ps).length ≤ 256 := by
  rw [choicesM_len]
  exact Nat.le_trans (Nat.pow_le_pow_right (by decide) h) (by decide)
def linesAtM (os : List Ofr) (p : Nat) : List Ln := match os[p]? with
  | some (.pack _ _) => (choicesM (addsM os p)).map fun c => ⟨p, 1, c⟩
  | some (.many _ _) => (List.range 12).map fun i => ⟨p, 1 + (i : Nat), []⟩
  | _ => []
def linesM (os : List Ofr) : List Ln := (List.range os.length).flatMap (linesAtM os)
theorem linesAtM_len {os : List Ofr} (h : os.length ≤ 8) (p : Nat) : (linesAtM os p).length ≤ 256 := by
  unfold linesAtM
  split
  · rw [List.length_map]
    exact choicesM_le (Nat.le_trans (addsN_len _ _ _) h)
  · rw [List.length_map, List.length_range]
    decide
  · decide
theorem linesN_len {os : List Ofr} (h : os.length ≤ 8) : ∀ n : Nat, ((List.range n).flatMap (linesAtM os)).length ≤ n * 256
  | 0 => by simp
  | n + 1 => by
    have ih := linesN_len h n
    have := linesAtM_len h n
    rw [List.range_succ, List.flatMap_append, List.length_append, List.flatMap_singleton]
    omega
theorem OfrAt.same {H H' : Hp} (s : Same H H') {a : Addr} : ∀ {o : Ofr}, OfrAt H a o → OfrAt H' a o
  | .pack c p, ⟨b, h1, h2⟩ => ⟨b, s _ _ h1, s _ _ h2⟩
  | .many c ts, ⟨b, t, h1, h2, us, h3, h4, h5⟩ => ⟨b, t, s _ _ h1, s _ _ h2, us, s _ _ h3, h4, fun i u t a b => s _ _ (h5 i u t a b)⟩
  | .add c p k, ⟨b, h1, h2⟩ => ⟨b, s _ _ h1, s _ _ h2⟩
theorem ShopAt.same {H H' : Hp} (s : Same H H') {a : Addr} {os : List Ofr} (h : ShopAt H a os) : ShopAt H' a os := by
  obtain ⟨vs, h1, h2, h3⟩ := h
  exact ⟨vs, s _ _ h1, h2, fun i v o a b => (h3 i v o a b).same s⟩
/-! ### lines: what they hold and cost, as lists -/
def togM (a b : List Int) : List Int := List.zipWith (· + ·) a b
theorem togM_get {a b : List Int} {i : Nat} {x y : Int} (h : a[i]? = some x) (h2 : b[i]? = some y) : (togM a b)[i]? = some (x + y) := by
  unfold togM
  rw [List.getElem?_zipWith, h, h2]
theorem togM_len (a b : List Int) : (togM a b).length = min a.length b.length := by
  unfold togM
  rw [List.length_zipWith]
def contAt (os : List Ofr) (x : Int) : List Int := match os[x.toNat]? with
  | some o => o.cont
  | none => []
def contM (os : List Ofr) (l : Ln) : List Int := l.as.foldl (fun acc x => togM acc (contAt os x)) ((contAt os l.p).map (l.c * ·))
def pieceL (ts : List (Int × Int)) (c : Int) : List Int := (ts.filter fun t => decide (t.1 ≤ c)).map (·.2)
def pieceM (ts : List (Int × Int)) (c : Int) : Int := (pieceL ts c).getLastD 0
def addPr (os : List Ofr) (x : Int) : Int := match os[x.toNat]? with
  | some (.add _ p _) => p
  | some (.pack _ p) => p
  | _ => 0
def priceM (os : List Ofr) (l : Ln) : Int := match os[l.p.toNat]? with
  | some (.many _ ts) => l.c * pieceM ts l.c
  | some (.pack _ p) => p + (l.as.map (addPr os)).sum
  | _ => 0
/-- l is a line of os -/
def LineOk (os : List Ofr) (l : Ln) : Prop := ∃ p : Nat, l.p = (p : Int) ∧ ((∃ c ts, os[p]? = some (.many c ts) ∧ GoodT ts ∧ 1 ≤ l.c ∧ l.c ≤ 12 ∧ l.as = []) ∨
  (∃ c pr, os[p]? = some (.pack c pr) ∧ l.c = 1 ∧ l.as.length ≤ 8 ∧ ∀ x ∈ l.as, ∃ j : Nat, x = (j : Int) ∧ ∃ c' pr' k, os[j]? = some (.add c' pr' k)))
/-- contents are short, prices of adds within bounds -/
def Fit (os : List Ofr) : Prop := ∀ o ∈ os, o.cont.length ≤ 1000 ∧ ∀ c p k, o = .add c p k → -10000000000000000 ≤ p ∧ p ≤ 10000000000000000
def LineAt (H : Hp) (a : Addr) (l : Ln) : Prop := ∃ b, H a = some (.tup [.int l.p, .int l.c, .ref b]) ∧ H b = some (LI l.as)
theorem LineF.at {H0 H : Hp} {a : Addr} {l : Ln} (h : LineF H0 H a l) : LineAt H a l := by
  obtain ⟨b, h1, h2, _⟩ := h
  exact ⟨b, h1, h2⟩
theorem LineAt.ext {T : List Addr} {H H' : Hp} {a : Addr} {l : Ln} (e : Ext T H H') (h : LineAt H a l) : LineAt H' a l := by
  obtain ⟨b, h1, h2⟩ := h
  exact ⟨b, e.tup h1, e.lst h2⟩
theorem contAt_get {os : List Ofr} {j : Nat} {o : Ofr} (h : os[j]? = some o) : contAt os (j : Int) = o.cont := by
  unfold contAt
  rw [Int.toNat_natCast, h]
theorem pieceL_take {ts : List (Int × Int)} {c : Int} {i : Nat} {t : Int × Int} (h : ts[i]? = some t) : pieceL (ts.take (i + 1)) c = if t.1 ≤ c then pieceL (ts.take i) c ++ [t.2] else pieceL (ts.take i) c := by
  unfold pieceL
  rw [take_succ_at h, List.filter_append, List.map_append]
  by_cases z : t.1 ≤ c
  · rw [if_pos z]
    simp [z]
  · rw [if_neg z]
    simp [z]
/-! ### _law_pop -/
abbrev s_law_pop : Stmt := topS 34
abbrev N_law_pop : List Str := ["_law_draws_here"]
theorem sc_law_pop : FnScope N_law_pop ["_law_draws_here"] (defScope s_law_pop) := ⟨rfl, rfl, rfl, by decide +kernel, rfl, by decide +kernel, by decide +kernel⟩

def sp_pop : Sp := fun vs H Q _ => ∃ (a : Addr) (ns : List Int), vs = [.ref a] ∧ H a = some (LI ns) ∧ ∀ H', SameBut a H H' → H' a = some (LI ns.tail) → Q (.int (ns.headD 0)) H'
section
variable {P : Program} {w : World} {K : PySem.W.Frag} {mg : Str → Option Value} {base : Heap}
theorem ok_pop {f : Addr} {fd : FuncData} {k : Nat} (D : Def K mg "_law_pop" s_law_pop ["_law_draws_here"] f fd) : FnOk P w K mg base CX0 (k + 1) f fd ["_law_draws_here"] sp_pop := by
  refine D.F.ok sc_law_pop (fun vs H Q E h => ?_) (fun cdv A outer s H vs Q E hr h => ?_)
  · obtain ⟨a, ns, rfl, _⟩ := h
    rfl
  · obtain ⟨a, ns, rfl, ha, q⟩ := h
    refine ⟨_, (pss_cons (ps_if (pt_cmpR (op_eqD hr.units) (pv 0) (pe_lst pa_nil) (nomark _))
   (pss_one (ps_ret pe_int))
   pss_nil)
  (pss_one (ps_ret (pe_bm PySem.F.plainAttrs_list PySem.F.slot_list_pop PySem.F.type_list_pop mt_popAt (pv 0) (pa_cons pe_int pa_nil))))), ?_⟩
    refine ⟨.ref a, rfl, Nat.zero_le _, fun p np => ?_⟩
    have ne : a ≠ p := ne_of_none ha np
    have ha1 : upd H p (.lst []) a = some (LI ns) := by rw [upd_ne ne]; exact ha
    have s1 : SameBut a H (upd H p (.lst [])) := .of (same_upd np)
    refine ⟨_, _, dp_ints (SqL.of ha1), dp_ints (ns := []) (SqL.of upd_same), shaped_ints _, shaped_ints _, _, rfl, ite2 (fun e => ?_) (fun e => ?_)⟩
    · rw [eqv_ints] at e
      have e2 : ns = [] := of_decide_eq_true e
      subst e2
      exact q _ s1 ha1
    · rw [eqv_ints] at e
      cases ns with
      | nil => exact absurd (decide_eq_true rfl) e
      | cons n r =>
        refine ⟨.ref a, rfl, .inl ⟨rfl, _, SqL.of ha1⟩, a, _, 0, 0, .int n, rfl, rfl, ha1, by decide, by decide, ?_, rfl, ?_⟩
        · rw [List.length_map, List.length_cons]
          exact (ixN_seq (ixN_nat (Nat.succ_pos _))).1
        · exact q _ (s1.trans .upd) upd_same
end
/-! ### _law_cases -/
abbrev s_law_cases : Stmt := topS 36
abbrev N_law_cases : List Str := ["_law_want_here", "_law_found", "_law_number"]
theorem sc_law_cases : FnScope N_law_cases ["_law_want_here"] (defScope s_law_cases) := ⟨rfl, rfl, rfl, by decide +kernel, rfl, by decide +kernel, by decide +kernel⟩

def casesM (ws : List Int) : Int := ws.foldl (fun p w => p * (w + 1)) 1
theorem casesM_take {ws : List Int} {i : Nat} {x : Int} (h : ws[i]? = some x) : casesM (ws.take (i + 1)) = casesM (ws.take i) * (x + 1) := by
  unfold casesM
  rw [take_succ_at h, List.foldl_append]
  rfl
def sp_cases (K : PySem.W.Frag) : Sp := fun vs H Q _ => ∃ (a : Addr) (ws : List Int), vs = [.ref a] ∧ SqL K H a (ws.map V.int) ∧ (∀ w ∈ ws, -1000000 ≤ w ∧ w ≤ 1000000) ∧ Q (.int (casesM ws)) H
section
variable {P : Program} {w : World} {K : PySem.W.Frag} {mg : Str → Option Value} {base : Heap}
theorem ok_cases {f : Addr} {fd : FuncData} {k : Nat} (D : Def K mg "_law_cases" s_law_cases ["_law_want_here"] f fd) : FnOk P w K mg base CX0 (k + 1) f fd ["_law_want_here"] (sp_cases K) := by
  refine D.F.ok sc_law_cases (fun vs H Q E h => ?_) (fun cdv A outer s H vs Q E hr h => ?_)
  · obtain ⟨a, ns, rfl, _⟩ := h
    rfl
  · obtain ⟨a, ws, rfl, ha, hw, q⟩ := h
    refine ⟨_, (pss_cons (ps_set (i := 1) sc_law_cases.nd rfl (Or.inl rfl) pe_int)
  (pss_cons (ps_for PassesOwn.never rfl (pi_list (pv 0)) (pg_name (i := 2) sc_law_cases.nd rfl (Or.inl rfl))
   (pss_one (ps_set (i := 1) sc_law_cases.nd rfl (Or.inl rfl) (pe_op op_mul (pv 1) (pe_op op_add (pv 2) pe_int)))))
  (pss_one (ps_ret (pv 1))))), ?_⟩
    refine ⟨.ref a, rfl, a, rfl, ⟨_, ha⟩, for_list (xs := ws.map V.int) (fun i σ H' => ∃ y, σ = [some (.ref a), some (.int (casesM (ws.take i))), y] ∧ H' = H) ⟨none, rfl, rfl⟩ (fun i σ H' _ hp => ?_) (fun i x σ H' hx hp => ?_) (fun σ H' hp => ?_)⟩
    · obtain ⟨y, _, rfl⟩ := hp
      exact ha
    · obtain ⟨y, rfl, rfl⟩ := hp
      obtain ⟨n, hn, rfl⟩ := of_get_ints hx
      have b := hw n (List.mem_of_getElem? hn)
      refine ⟨_, rfl, _, rfl, _, _, rfl, rfl, _, _, rfl, rfl, .inr ⟨by omega, by omega⟩, some (.int n), ?_, rfl⟩
      rw [casesM_take hn]
      rfl
    · obtain ⟨y, rfl, rfl⟩ := hp
      refine ⟨_, rfl, ?_⟩
      rw [List.length_map, List.take_length]
      exact q
end
/-! ### _law_draws -/
abbrev s_law_draws : Stmt := topS 33
abbrev N_law_draws : List Str := ["_law_script", "_law_turn", "_law_many", "_law_cells", "_law_found", "_law_k", "_law_left", "_law_place", "_law_number", "_law_at", "_law_cell"]
theorem sc_law_draws : FnScope N_law_draws ["_law_script", "_law_turn", "_law_many"] (defScope s_law_draws) := ⟨rfl, rfl, rfl, by decide +kernel, rfl, by decide +kernel, by decide +kernel⟩

theorem cut_to (ns : List Int) (k : Nat) : cutV (ns.map V.int) none (some (k : Int)) = (ns.take k).map V.int := by
  unfold cutV
  rw [HT.sIx_nat, HT.sIx_none, List.drop_zero, Nat.sub_zero, List.map_take]
  exact (List.take_eq_take_iff).mpr (by omega)
def sp_draws (K : PySem.W.Frag) : Sp := fun vs H Q _ => ∃ (a : Addr) (ns : List Int) (t m : Nat), vs = [.ref a, .int t, .int m] ∧ SqL K H a (ns.map V.int) ∧ ns.length ≤ 1000 ∧ t ≤ 1000 ∧ m ≤ 1000 ∧
  ∀ H' p ds, Same H H' → H p = none → H' p = some (LI ds) → Q (.ref p) H'
section
variable {P : Program} {w : World} {K : PySem.W.Frag} {mg : Str → Option Value} {base : Heap}
theorem ok_draws {f : Addr} {fd : FuncData} {k : Nat} (M : Names mg) (D : Def K mg "_law_draws" s_law_draws ["_law_script", "_law_turn", "_law_many"] f fd) :
    FnOk P w K mg base CX0 (k + 1) f fd ["_law_script", "_law_turn", "_law_many"] (sp_draws K) := by
  refine D.F.ok sc_law_draws (fun vs H Q E h => ?_) (fun cdv A outer s H vs Q E hr h => ?_)
  · obtain ⟨a, ns, t, m, rfl, _⟩ := h
    rfl
  · obtain ⟨a, ns, t, m, rfl, hS, hl, ht, hm, q⟩ := h
    refine ⟨_, (pss_cons (ps_set (i := 3) sc_law_draws.nd rfl (Or.inl rfl) (pe_op op_cat (pe_slice sl_list (pv 0) po_none (po_some pe_int)) (pe_lst (pa_cons (pv 1) pa_nil))))
  (pss_cons (ps_set (i := 4) sc_law_draws.nd rfl (Or.inl rfl) (pe_lst pa_nil))
  (pss_cons (ps_if (pt_cmpR op_eq (pe_op op_mod (pe_op op_fdiv (pe_ix ix_list (pv 3) pe_int (fun _ _ => rfl)) pe_int) pe_int) pe_int (nomark _))
   (pss_cons (ps_setLc (i := 6) (own := [("_law_cell", 10)]) (by rfl) sc_law_draws.nd rfl rfl (sw_true rfl rfl rfl (by decide +kernel)) (pi_list (pv 3)) (blkOk_by (own := [("_law_cell", 10)]) (N := N_law_draws) (sc := defScope s_law_draws) (by decide +kernel)) (fun _ _ _ _ _ => (pg_name (i := 10) sc_law_draws.nd rfl (Or.inl rfl))) (fun _ _ _ _ _ => pts_nil) (fun _ _ _ _ _ => (pe_op op_fdiv (pv 10) pe_int)))
  (pss_cons (ps_for PassesOwn.never rfl (pi_range1 (by rfl) M.range (pa_cons (pe_op op_add (pv 1) (pv 2)) pa_nil)) (pg_name (i := 5) sc_law_draws.nd rfl (Or.inl rfl))
   (pss_cons (ps_set (i := 9) sc_law_draws.nd rfl (Or.inl rfl) (pe_op op_mod (pv 5) (pe_callB call_len_seq (by rfl) M.len (by decide +kernel) (pa_cons (pv 6) pa_nil))))
  (pss_cons (ps_if (pt_cmpR op_ge (pv 5) (pv 1) (nomark _))
   (pss_one (ps_expr (pe_bm PySem.F.plainAttrs_list PySem.F.slot_list_append PySem.F.type_list_append mt_append (pv 4) (pa_cons (pe_op op_mod (pe_ix ix_list (pv 6) (pv 9) (fun _ _ => rfl)) pe_int) pa_nil))))
   pss_nil)
  (pss_one (ps_asg (pe_op op_fdivW (pe_ix ix_list (pv 6) (pv 9) (fun _ _ => rfl)) pe_int) (pg_sub (pv 6) (pv 9) set_list))))))
  (pss_one (ps_ret (pv 4)))))
   pss_nil)
  (pss_cons (ps_for PassesOwn.never rfl (pi_range1 (by rfl) M.range (pa_cons (pv 2) pa_nil)) (pg_name (i := 5) sc_law_draws.nd rfl (Or.inl rfl))
   (pss_cons (ps_set (i := 7) sc_law_draws.nd rfl (Or.inl rfl) (pe_op op_add (pe_op op_mul (pe_op op_mul (pe_op op_add (pv 5) (pv 1)) (pe_op op_add (pv 5) (pv 1))) pe_int) pe_int))
  (pss_cons (ps_set (i := 8) sc_law_draws.nd rfl (Or.inl rfl) (pe_op op_mod (pe_op op_mul (pe_op op_add (pe_op op_mod (pe_ix ix_list (pv 3) (pe_op op_mod (pv 5) (pe_callB call_len_seq (by rfl) M.len (by decide +kernel) (pa_cons (pv 3) pa_nil))) (fun _ _ => rfl)) pe_int) (pv 7)) pe_int) pe_int))
  (pss_cons (ps_set (i := 8) sc_law_draws.nd rfl (Or.inl rfl) (pe_op op_mod (pe_op op_add (pe_op op_mul (pv 8) (pv 8)) (pe_op op_mul pe_int (pv 5))) pe_int))
  (pss_one (ps_expr (pe_bm PySem.F.plainAttrs_list PySem.F.slot_list_append PySem.F.type_list_append mt_append (pv 4) (pa_cons (pe_op op_mod (pe_op op_mul (pv 8) (pv 8)) pe_int) pa_nil))))))))
  (pss_one (ps_ret (pv 4))))))), ?_⟩
    refine ⟨.ref a, rfl, 63, rfl, a, ns.map V.int, rfl, hS, fun c nc => ?_⟩
    refine ⟨.int t, rfl, by show 1 ≤ sizeLine; decide, fun u nu => ?_⟩
    have hcu : c ≠ u := ne_of_none upd_same nu
    have hc : (upd (upd H c (.lst (cutV (ns.map V.int) none (some 63)))) u (.lst [.int (t : Int)])) c = some (.lst (cutV (ns.map V.int) none (some 63))) := by
      rw [upd_ne hcu]
      exact upd_same
    have hlen := cutV_length (ns.map V.int) none (some 63)
    rw [List.length_map] at hlen
    refine ⟨c, u, _, _, rfl, rfl, hc, upd_same, szL (by rw [show ([V.int (t : Int)] : List V).length = 1 from rfl]; omega), fun e ne => ?_⟩
    obtain ⟨cs, ecs, hcs1, hcs2⟩ : ∃ cs : List Int, cutV (ns.map V.int) none (some 63) ++ [V.int (t : Int)] = cs.map V.int ∧ 0 < cs.length ∧ cs.length ≤ 2000 := by
      refine ⟨ns.take 63 ++ [(t : Int)], ?_, ?_, ?_⟩
      · rw [show (63 : Int) = ((63 : Nat) : Int) from rfl, cut_to, List.map_append]
        rfl
      · rw [List.length_append]
        exact Nat.succ_pos _
      · rw [List.length_append, List.length_take, List.length_singleton]
        omega
    have s1 : Same H (upd (upd (upd H c (.lst (cutV (ns.map V.int) none (some 63)))) u (.lst [.int (t : Int)])) e (.lst (cutV (ns.map V.int) none (some 63) ++ [.int (t : Int)]))) :=
      ((same_upd nc).trans (same_upd nu)).trans (same_upd ne)
    have he1 : (upd (upd (upd H c (.lst (cutV (ns.map V.int) none (some 63)))) u (.lst [.int (t : Int)])) e (.lst (cutV (ns.map V.int) none (some 63) ++ [.int (t : Int)]))) e = some (LI cs) := by
      rw [upd_same, ecs]
    generalize (upd (upd (upd H c (.lst (cutV (ns.map V.int) none (some 63)))) u (.lst [.int (t : Int)])) e (.lst (cutV (ns.map V.int) none (some 63) ++ [.int (t : Int)]))) = H1 at s1 he1 ⊢
    -- found = []
    refine ⟨Nat.zero_le _, fun o no => ?_⟩
    have hoe : e ≠ o := ne_of_none he1 no
    have s2 : Same H (upd H1 o (.lst [])) := s1.trans (same_upd no)
    have noH : H o = none := s1.free no
    have he2 : (upd H1 o (.lst [])) e = some (LI cs) := by rw [upd_ne hoe]; exact he1
    have ho2 : (upd H1 o (.lst [])) o = some (LI []) := upd_same
    generalize (upd H1 o (.lst [])) = H2 at s2 he2 ho2 ⊢
    -- cells[0] // 50000 % 2 == 1
    refine ⟨.ref e, rfl, e, _, 0, .int cs[0], rfl, rfl, SqL.of he2, atI_nat (j := 0) (getD_ints hcs1), _, _, rfl, rfl, ⟨by decide, by decide⟩, _, _, rfl, rfl, (by show (0 : Int) < _; decide), rfl, _, rfl, ite2 (fun _ => ?_) (fun _ => ?_)⟩
    · -- left = [cell // 100000 for cell in cells]
      refine ⟨.ref e, rfl, e, rfl, ⟨_, SqL.of he2⟩, fun B nB => lc_list (xs := cs.map V.int) (fun i H' => Same H2 H' ∧ ∃ ls : List Int, H' B = some (LI ls) ∧ ls.length = i) ⟨same_upd nB, [], upd_same, rfl⟩ (fun i H' _ hp => SqL.of (hp.1 _ _ he2)) (fun i x H' hx hp => ?_) (fun H3 hp => ?_)⟩
      · obtain ⟨s3, ls, hB, hls⟩ := hp
        obtain ⟨n, hn, rfl⟩ := of_get_ints hx
        have hi : i < cs.length := (List.getElem?_eq_some_iff.mp hn).1
        refine ⟨rfl, _, rfl, _, _, rfl, rfl, ⟨by decide, by decide⟩, _, hB, szL' (by rw [List.length_map]; omega), sm_new s3 nB, ls ++ [n / 100000], ?_, by rw [List.length_append, hls]; rfl⟩
        exact at_app
      · obtain ⟨s3, ls, hB, hls⟩ := hp
        rw [List.length_map] at hls
        have s3' := s2.trans s3
        have ho3 := s3 _ _ ho2
        have noB : o ≠ B := ne_of_none ho2 nB
        have nBH : H B = none := s2.free nB
        -- for k in range(turn + many)
        refine ⟨_, rfl, _, rfl, _, _, rfl, rfl, _, rfl, by omega, by omega, for_range (n := ((t : Int) + (m : Int)).toNat) (fun i σ H' => ∃ y5 y9, σ = [some (.ref a), some (.int t), some (.int m), some (.ref e), some (.ref o), y5, some (.ref B), none, none, y9, none] ∧ Same H H' ∧
          (∃ ds : List Int, H' o = some (LI ds) ∧ ds.length ≤ i) ∧ ∃ ls : List Int, H' B = some (LI ls) ∧ ls.length = cs.length) ⟨none, none, rfl, s3', ⟨[], ho3, Nat.zero_le _⟩, ls, hB, hls⟩ (fun i σ H4 hi hp => ?_) (fun σ H4 hp => ?_)⟩
        · obtain ⟨y5, y9, rfl, s4, ⟨ds, ho4, hds⟩, ls, hB4, hls⟩ := hp
          obtain ⟨j, hj, ej⟩ := mod_at (i := (0 : Int) + (i : Nat)) (n := (ls.map V.int).length) (by rw [List.length_map]; omega)
          rw [List.length_map] at hj
          refine ⟨_, rfl, _, rfl, B, _, rfl, .inl (SqL.of hB4), _, _, rfl, rfl, by rw [List.length_map]; omega, ?_⟩
          refine ⟨_, rfl, _, rfl, _, _, rfl, rfl, _, rfl, ite2 (fun _ => ?_) (fun _ => ?_)⟩
          · refine ⟨_, rfl, .inl ⟨rfl, _, SqL.of ho4⟩, _, rfl, _, rfl, B, _, _, _, rfl, rfl, SqL.of hB4, at_of ej (getD_ints hj), _, _, rfl, rfl, (by show (0 : Int) < _; decide), o, _, _, rfl, rfl, ho4, szL' (by rw [List.length_map]; omega), ?_⟩
            have hB5 : upd H4 o (.lst (ds.map V.int ++ [V.int (ls[j] % 2147483587)])) B = some (LI ls) := by rw [upd_ne noB.symm]; exact hB4
            refine ⟨_, rfl, _, rfl, B, _, _, _, rfl, rfl, SqL.of hB5, at_of ej (getD_ints hj), _, _, rfl, rfl, wide_div (b := 32) (by decide) (by decide) (by decide) (by decide), _, rfl, _, rfl, B, _, _, j, rfl, rfl, hB5, by rw [ej, List.length_map]; exact ixN_nat hj, ?_⟩
            refine ⟨_, _, rfl, sm_new (sm_new s4 noH) nBH, ⟨ds ++ [ls[j] % 2147483587], ?_, by rw [List.length_append, List.length_singleton]; omega⟩, ls.set j (ls[j] / 2147483587), ?_, by rw [List.length_set]; exact hls⟩
            · rw [upd_ne noB]
              exact at_app
            · exact at_set
          · refine ⟨_, rfl, _, rfl, B, _, _, _, rfl, rfl, SqL.of hB4, at_of ej (getD_ints hj), _, _, rfl, rfl, wide_div (b := 32) (by decide) (by decide) (by decide) (by decide), _, rfl, _, rfl, B, _, _, j, rfl, rfl, hB4, by rw [ej, List.length_map]; exact ixN_nat hj, ?_⟩
            refine ⟨_, _, rfl, sm_new s4 nBH, ⟨ds, ?_, by omega⟩, ls.set j (ls[j] / 2147483587), ?_, by rw [List.length_set]; exact hls⟩
            · rw [upd_ne noB]
              exact ho4
            · exact at_set
        · obtain ⟨y5, y9, rfl, s4, ⟨ds, ho4, hds⟩, _⟩ := hp
          exact ⟨_, rfl, q H4 o ds s4 noH ho4⟩
    · -- for k in range(many)
      refine ⟨_, rfl, _, rfl, by omega, by omega, for_range (n := (m : Int).toNat) (fun i σ H' => ∃ y5 y7 y8, σ = [some (.ref a), some (.int t), some (.int m), some (.ref e), some (.ref o), y5, none, y7, y8, none, none] ∧ Same H H' ∧ H' e = some (LI cs) ∧
        (∃ ds : List Int, H' o = some (LI ds) ∧ ds.length ≤ i)) ⟨none, none, none, rfl, s2, he2, [], ho2, Nat.zero_le _⟩ (fun i σ H4 hi hp => ?_) (fun σ H4 hp => ?_)⟩
      · obtain ⟨y5, y7, y8, rfl, s4, he4, ds, ho4, hds⟩ := hp
        have hi2 : i < m := by omega
        obtain ⟨j, hj, ej⟩ := mod_at (i := (0 : Int) + (i : Nat)) (n := (cs.map V.int).length) (by rw [List.length_map]; omega)
        rw [List.length_map] at hj
        -- place
        refine ⟨_, rfl, _, rfl, _, _, rfl, rfl, _, rfl, _, rfl, _, _, rfl, rfl, _, _, rfl, rfl, .inl ⟨by omega, by omega⟩, _, _, rfl, rfl, .inr ⟨by decide, by decide⟩, _, _, rfl, rfl, ?_⟩
        -- number
        refine ⟨_, rfl, _, rfl, _, rfl, e, _, rfl, .inl (SqL.of he4), _, _, rfl, rfl, by rw [List.length_map]; omega, e, _, _, _, rfl, rfl, SqL.of he4, at_of ej (getD_ints hj), _, _, rfl, rfl, (by show (0 : Int) < _; decide), _, rfl, _, _, rfl, rfl, _, _, rfl, rfl, .inr ⟨by decide, by decide⟩, _, _, rfl, rfl, (by show (0 : Int) < _; decide), ?_⟩
        have mb : ∀ z : Int, -(2 ^ 64) < z % 2147483647 ∧ z % 2147483647 < 2 ^ 64 := fun z => by omega
        have mb2 : ∀ z : Int, -(2 ^ 64) < z % 2147483629 ∧ z % 2147483629 < 2 ^ 64 := fun z => by omega
        refine ⟨_, rfl, _, rfl, _, _, rfl, rfl, .inl (mb _), _, rfl, _, _, rfl, rfl, .inl ⟨by decide, by decide⟩, _, _, rfl, rfl, _, _, rfl, rfl, (by show (0 : Int) < _; decide), ?_⟩
        refine ⟨_, rfl, .inl ⟨rfl, _, SqL.of ho4⟩, _, rfl, _, rfl, _, _, rfl, rfl, .inl (mb2 _), _, _, rfl, rfl, (by show (0 : Int) < _; decide), o, _, _, rfl, rfl, ho4, szL' (by rw [List.length_map]; omega), ?_⟩
        refine ⟨_, _, _, rfl, sm_new s4 noH, ?_, _, at_app, by rw [List.length_append, List.length_singleton]; omega⟩
        rw [upd_ne hoe]
        exact he4
      · obtain ⟨y5, y7, y8, rfl, s4, _, ds, ho4, hds⟩ := hp
        exact ⟨_, rfl, q H4 o ds s4 noH ho4⟩
end
/-! ### _law_want -/
abbrev s_law_want : Stmt := topS 35
abbrev N_law_want : List Str := ["_law_draws_here", "_law_many", "_law_number", "_law_found", "_law_k"]
theorem sc_law_want : FnScope N_law_want ["_law_draws_here", "_law_many"] (defScope s_law_want) := ⟨rfl, rfl, rfl, by decide +kernel, rfl, by decide +kernel, by decide +kernel⟩

theorem menu8 {j : Nat} (h : j < 8) : ∃ v : Int, ([V.int 0, V.int 1, V.int 2, V.int 9, V.int 4, V.int 5, V.int 3, V.int 1] : List V)[j]? = some (.int v) ∧ 0 ≤ v ∧ v ≤ 9 :=
  match j, h with
  | 0, _ => ⟨0, rfl, by decide, by decide⟩
  | 1, _ => ⟨1, rfl, by decide, by decide⟩
  | 2, _ => ⟨2, rfl, by decide, by decide⟩
  | 3, _ => ⟨9, rfl, by decide, by decide⟩
  | 4, _ => ⟨4, rfl, by decide, by decide⟩
  | 5, _ => ⟨5, rfl, by decide, by decide⟩
  | 6, _ => ⟨3, rfl, by decide, by decide⟩
  | 7, _ => ⟨1, rfl, by decide, by decide⟩
theorem shl_ok {i : Nat} (h : i < 4) : (0 : Int) < 1 * 2 ^ (3 * (0 + (i : Int))).toNat ∧ (1 : Int) * 2 ^ (3 * (0 + (i : Int))).toNat < 1073741824 :=
  match i, h with
  | 0, _ => by decide
  | 1, _ => by decide
  | 2, _ => by decide
  | 3, _ => by decide
theorem first_at : ∀ {l : List Int} {x : Int}, x ∈ l → ∃ j : Nat, l[j]? = some x ∧ ∀ (m : Nat) y, m < j → l[m]? = some y → y ≠ x
  | a :: r, x, h => by
    by_cases e : a = x
    · subst e
      exact ⟨0, rfl, fun m y hm => absurd hm (Nat.not_lt_zero _)⟩
    · obtain ⟨j, h1, h2⟩ := first_at (l := r) ((List.mem_cons.mp h).resolve_left fun z => e z.symm)
      refine ⟨j + 1, h1, fun m y hm hy => ?_⟩
      cases m with
      | zero =>
        have : a = y := Option.some.inj hy
        rw [← this]
        exact e
      | succ m => exact h2 m y (by omega) hy
theorem casesM_zero : ∀ (ws : List Int) (p : Int), (∀ w ∈ ws, w = 0) → ws.foldl (fun p w => p * (w + 1)) p = p
  | [], _, _ => rfl
  | a :: r, p, h => by
    have e : a = 0 := h a List.mem_cons_self
    subst e
    show r.foldl (fun p w => p * (w + 1)) (p * (0 + 1)) = p
    rw [casesM_zero r _ fun w hw => h w (List.mem_cons_of_mem _ hw)]
    omega
theorem sum_nonneg : ∀ {ws : List Int}, (∀ w ∈ ws, 0 ≤ w) → 0 ≤ ws.sum
  | [], _ => by decide
  | a :: r, h => by
    have h1 := h a List.mem_cons_self
    have h2 := sum_nonneg (ws := r) fun w hw => h w (List.mem_cons_of_mem _ hw)
    rw [List.sum_cons]
    omega
theorem sum_get : ∀ {ws : List Int} {j : Nat} {x : Int}, (∀ w ∈ ws, 0 ≤ w) → ws[j]? = some x → x ≤ ws.sum
  | [], j, x, _, h => by simp at h
  | a :: r, 0, x, hh, h => by
    have e : a = x := Option.some.inj h
    have := sum_nonneg (ws := r) fun w hw => hh w (List.mem_cons_of_mem _ hw)
    rw [List.sum_cons]
    omega
  | a :: r, j + 1, x, hh, h => by
    have h1 := hh a List.mem_cons_self
    have h2 := sum_get (ws := r) (j := j) (x := x) (fun w hw => hh w (List.mem_cons_of_mem _ hw)) h
    rw [List.sum_cons]
    omega
def Small (ws : List Int) : Prop := ∀ w ∈ ws, 0 ≤ w ∧ w ≤ 9
theorem Small.app {ws : List Int} {n : Int} (h : Small ws) (h1 : 0 ≤ n) (h2 : n ≤ 9) : Small (ws ++ [n]) := fun w hw => by
  rcases List.mem_append.mp hw with z | z
  · exact h w z
  · rw [List.mem_singleton.mp z]
    exact ⟨h1, h2⟩
theorem Small.big {ws : List Int} (h : Small ws) : ∀ w ∈ ws, -1000000 ≤ w ∧ w ≤ 1000000 := fun w hw => by
  have := h w hw
  omega
def sp_want : Sp := fun vs H Q _ => ∃ (a : Addr) (ns : List Int) (m : Nat), vs = [.ref a, .int m] ∧ H a = some (LI ns) ∧ 1 ≤ m ∧ m ≤ 4 ∧
  ∀ H' p ws ns', SameBut a H H' → H p = none → p ≠ a → H' p = some (LI ws) → H' a = some (LI ns') → ws.length = m → Small ws → casesM ws ≤ 400 → Q (.ref p) H'
section
variable {P : Program} {w : World} {K : PySem.W.Frag} {mg : Str → Option Value} {base : Heap}
theorem ok_want {f fp fc : Addr} {fd fdp fdc : FuncData} {k : Nat} (M : Names mg) (D : Def K mg "_law_want" s_law_want ["_law_draws_here", "_law_many"] f fd) (D_law_pop : Def K mg "_law_pop" s_law_pop ["_law_draws_here"] fp fdp) (D_law_cases : Def K mg "_law_cases" s_law_cases ["_law_want_here"] fc fdc) :
    FnOk P w K mg base CX0 (k + 2) f fd ["_law_draws_here", "_law_many"] sp_want := by
  have G_law_pop : FnOk P w K mg base CX0 (k + 1) fp fdp ["_law_draws_here"] sp_pop := ok_pop D_law_pop
  have G_law_cases : FnOk P w K mg base CX0 (k + 1) fc fdc ["_law_want_here"] (sp_cases K) := ok_cases D_law_cases
  refine D.F.ok sc_law_want (fun vs H Q E h => ?_) (fun cdv A outer s H vs Q E hr h => ?_)
  · obtain ⟨a, ns, m, rfl, _⟩ := h
    rfl
  · obtain ⟨a, ns, m, rfl, ha, hm1, hm4, q⟩ := h
    refine ⟨_, (pss_cons (ps_set (i := 2) sc_law_want.nd rfl (Or.inr rfl) (pe_call G_law_pop hr (by rfl) D_law_pop.g D_law_pop.F.kp D_law_pop.b .nil pass0 (pa_cons (pv 0) pa_nil)))
  (pss_cons (ps_setLc (i := 3) (own := [("_law_k", 4)]) (by rfl) sc_law_want.nd rfl rfl (sw_true rfl rfl rfl (by decide +kernel)) (pi_range1 (by rfl) M.range (pa_cons (pv 1) pa_nil)) (blkOk_by (own := [("_law_k", 4)]) (N := N_law_want) (sc := defScope s_law_want) (by decide +kernel)) (fun _ _ _ _ _ => (pg_name (i := 4) sc_law_want.nd rfl (Or.inl rfl))) (fun _ _ _ _ _ => pts_nil) (fun _ _ _ _ _ => (pe_ix (ix_listK (K := K) rfl) (pe_lst (pa_cons pe_int (pa_cons pe_int (pa_cons pe_int (pa_cons pe_int (pa_cons pe_int (pa_cons pe_int (pa_cons pe_int (pa_cons pe_int pa_nil))))))))) (pe_op op_mod (pe_op op_fdiv (pv 2) (pe_op op_shl pe_int (pe_op op_mul pe_int (pv 4)))) pe_int) (fun _ _ => rfl))))
  (pss_cons (ps_if (pt_cmpR op_eq (pe_op op_mod (pe_op op_fdiv (pv 2) pe_int) pe_int) pe_int (nomark _))
   (pss_one (ps_setLc (i := 3) (own := [("_law_k", 4)]) (by rfl) sc_law_want.nd rfl rfl (sw_true rfl rfl rfl (by decide +kernel)) (pi_range1 (by rfl) M.range (pa_cons (pv 1) pa_nil)) (blkOk_by (own := [("_law_k", 4)]) (N := N_law_want) (sc := defScope s_law_want) (by decide +kernel)) (fun _ _ _ _ _ => (pg_name (i := 4) sc_law_want.nd rfl (Or.inl rfl))) (fun _ _ _ _ _ => pts_nil) (fun _ _ _ _ _ => (pe_op op_mod (pe_call G_law_pop hr (by rfl) D_law_pop.g D_law_pop.F.kp D_law_pop.b .nil pass0 (pa_cons (pv 0) pa_nil)) pe_int))))
   pss_nil)
  (pss_cons (ps_while PassesOwn.never (pt_cmpR op_gt (pe_call G_law_cases hr (by rfl) D_law_cases.g D_law_cases.F.kp D_law_cases.b .nil pass0 (pa_cons (pv 3) pa_nil)) pe_int (nomark _))
   (pss_one (ps_asg (pe_op op_sub (pe_callB (cr_max rfl) (by rfl) M.max (by decide +kernel) (pa_cons (pv 3) pa_nil)) pe_int) (pg_sub (pv 3) (pe_bm PySem.F.plainAttrs_list PySem.F.slot_list_index PySem.F.type_list_index mt_index (pv 3) (pa_cons (pe_callB (cr_max rfl) (by rfl) M.max (by decide +kernel) (pa_cons (pv 3) pa_nil)) pa_nil)) set_list))))
  (pss_one (ps_ret (pv 3))))))), ?_⟩
    -- number = pop(draws)
    refine ⟨.ref a, rfl, a, ns, rfl, ha, fun H1 s1 h1 => ?_⟩
    generalize ns.headD 0 = n0
    generalize ns.tail = ns1 at h1
    -- the menu
    refine ⟨_, rfl, _, rfl, by omega, by omega, fun B nB => lc_range (lo := 0) (n := (m : Int).toNat) (fun i H' => SameBut a H H' ∧ H' a = some (LI ns1) ∧ ∃ ws, H' B = some (LI ws) ∧ ws.length = i ∧ Small ws) ?_ (fun i H' hi hp => ?_) (fun H2 hp => ?_)⟩
    · have nBa : a ≠ B := ne_of_none h1 nB
      refine ⟨?_, ?_, [], upd_same, rfl, fun w hw => nomatch hw⟩
      · exact s1.new (s1.free nB (by rw [h1]; exact fun z => nomatch z))
      · rw [upd_ne nBa]
        exact h1
    · have nBa : a ≠ B := ne_of_none h1 nB
      have nBH : H B = none := s1.free nB (by rw [h1]; exact fun z => nomatch z)
      obtain ⟨s2, h2, ws, hB, hl, sm⟩ := hp
      have hi4 : i < 4 := by omega
      refine ⟨rfl, by show 8 ≤ sizeLine; decide, fun p np => ?_⟩
      have npB : B ≠ p := ne_of_none hB np
      have npa : a ≠ p := ne_of_none h2 np
      obtain ⟨j, hj, ej⟩ := mod_at (i := n0 / (1 * 2 ^ (3 * (0 + (i : Int))).toNat)) (n := 8) (by decide)
      obtain ⟨v, hv, hv1, hv2⟩ := menu8 hj
      refine ⟨_, rfl, _, rfl, _, _, rfl, rfl, .inl ⟨by decide, by decide⟩, _, _, rfl, rfl, ⟨by omega, by omega, by decide⟩, _, _, rfl, rfl, shl_ok hi4, _, _, rfl, rfl, (by show (0 : Int) < _; decide), p, _, _, _, rfl, rfl, SqL.of upd_same, at_of ej hv, ?_⟩
      have hB2 : (upd H' p (.lst [V.int 0, V.int 1, V.int 2, V.int 9, V.int 4, V.int 5, V.int 3, V.int 1])) B = some (LI ws) := by rw [upd_ne npB]; exact hB
      refine ⟨_, hB2, szL' (by rw [List.length_map]; omega), ?_, ?_, _, at_app, by rw [List.length_append, hl]; rfl, sm.app hv1 hv2⟩
      · exact (s2.new (s2.free np (by rw [h2]; exact fun z => nomatch z))).new nBH
      · rw [upd_ne nBa, upd_ne npa]
        exact h2
    · have nBa : a ≠ B := ne_of_none h1 nB
      have nBH : H B = none := s1.free nB (by rw [h1]; exact fun z => nomatch z)
      obtain ⟨s2, h2, ws, hB, hl, sm⟩ := hp
      -- the end: while and return, from any found list
      have fin : ∀ (L : Addr) (σ : L2.St) (H3 : Hp), σ = [some (.ref a), some (.int m), some (.int n0), some (.ref L), none] → H L = none → a ≠ L → SameBut a H H3 → (∃ ns3, H3 a = some (LI ns3)) → (∃ ws, H3 L = some (LI ws) ∧ ws.length = m ∧ Small ws) →
          ∃ W : Nat → L2.St → Hp → Prop, (∃ μ, W μ σ H3) ∧ ∀ μ σ H4, W μ σ H4 → ∃ ws, W μ σ H4 ∧ σ = [some (.ref a), some (.int m), some (.int n0), some (.ref L), none] ∧ SameBut a H H4 ∧ (∃ ns3, H4 a = some (LI ns3)) ∧ H4 L = some (LI ws) ∧ ws.length = m ∧ Small ws ∧ μ = ws.sum.toNat ∧
            ∀ ws' : List Int, ws'.length = m → Small ws' → ws'.sum < ws.sum → ∃ μ', μ' < μ ∧ W μ' σ (upd H4 L (LI ws')) := by
        intro L σ H3 eσ nL naL s3 h3 h4
        refine ⟨fun μ σ H4 => ∃ ws, σ = [some (.ref a), some (.int m), some (.int n0), some (.ref L), none] ∧ SameBut a H H4 ∧ (∃ ns3, H4 a = some (LI ns3)) ∧ H4 L = some (LI ws) ∧ ws.length = m ∧ Small ws ∧ μ = ws.sum.toNat, ?_, ?_⟩
        · obtain ⟨ws, e1, e2, e3⟩ := h4
          exact ⟨_, ws, eσ, s3, h3, e1, e2, e3, rfl⟩
        · intro μ σ H4 hW
          obtain ⟨ws, e1, e2, ⟨ns3, e3⟩, e4, e5, e6, e7⟩ := id hW
          refine ⟨ws, hW, e1, e2, ⟨ns3, e3⟩, e4, e5, e6, e7, fun ws' l1 l2 l3 => ⟨_, ?_, ws', e1, e2.new nL, ⟨ns3, ?_⟩, upd_same, l1, l2, rfl⟩⟩
          · have p1 : 0 ≤ ws'.sum := sum_nonneg fun w hw => (l2 w hw).1
            omega
          · rw [upd_ne naL]
            exact e3
      have body : ∀ (L : Addr) (H4 : Hp) (ws : List Int), H L = none → a ≠ L → SameBut a H H4 → (∃ ns3, H4 a = some (LI ns3)) → H4 L = some (LI ws) → ws.length = m → Small ws → casesM ws > 400 →
          ∀ mx : Int, mx ∈ ws → (∀ y, y ∈ ws → y ≤ mx) → ∃ j : Nat, ws[j]? = some mx ∧ (∀ (m' : Nat) (z' : V), m' < j → (ws.map V.int)[m']? = some z' → eqV z' (.int mx) = false) ∧ j < ws.length ∧ (ws.set j (mx - 1)).length = m ∧ Small (ws.set j (mx - 1)) ∧ (ws.set j (mx - 1)).sum < ws.sum := by
        intro L H4 ws nL naL s4 h3 h4 hl sm hc mx hmx hle
        obtain ⟨j, h1, h2⟩ := first_at hmx
        have pos : 1 ≤ mx := by
          rcases Int.lt_or_le mx 1 with z | z
          · have e : casesM ws = 1 := casesM_zero ws 1 fun w hw => by
              have a1 := hle w hw
              have a2 := sm w hw
              omega
            omega
          · exact z
        have b := sm mx hmx
        refine ⟨j, h1, fun m' z' hm hz => ?_, (List.getElem?_eq_some_iff.mp h1).1, by rw [List.length_set]; exact hl, fun w hw => ?_, ?_⟩
        · obtain ⟨y, hy, rfl⟩ := of_get_ints hz
          have := h2 m' y hm hy
          show (y == mx) = false
          exact beq_eq_false_iff_ne.mpr this
        · rcases List.mem_or_eq_of_mem_set hw with z | z
          · exact sm w z
          · omega
        · rw [sum_set h1]
          omega
      -- number // 4096 % 4 == 0
      refine ⟨_, rfl, _, _, rfl, rfl, ⟨by decide, by decide⟩, _, _, rfl, rfl, (by show (0 : Int) < _; decide), rfl, _, rfl, ite2 (fun _ => ?_) (fun _ => ?_)⟩
      · refine ⟨_, rfl, _, rfl, by omega, by omega, fun L nL => lc_range (lo := 0) (n := (m : Int).toNat) (fun i H' => SameBut a H H' ∧ (∃ ns3, H' a = some (LI ns3)) ∧ ∃ ws, H' L = some (LI ws) ∧ ws.length = i ∧ Small ws) ?_ (fun i H' hi hp => ?_) (fun H3 hp => ?_)⟩
        · have naL : a ≠ L := ne_of_none h2 nL
          refine ⟨s2.new (s2.free nL (by rw [h2]; exact fun z => nomatch z)), ⟨ns1, ?_⟩, [], upd_same, rfl, fun w hw => nomatch hw⟩
          rw [upd_ne naL]
          exact h2
        · have naL : a ≠ L := ne_of_none h2 nL
          have nLH : H L = none := s2.free nL (by rw [h2]; exact fun z => nomatch z)
          obtain ⟨s3, ⟨ns3, h3⟩, ws, hL, hl, sm⟩ := hp
          refine ⟨rfl, .ref a, rfl, a, ns3, rfl, h3, fun H5 s5 h5 => ⟨_, _, rfl, rfl, (by show (0 : Int) < _; decide), _, s5 L _ naL.symm hL, szL' (by rw [List.length_map]; omega), ?_⟩⟩
          refine ⟨(s3.trans s5).new nLH, ⟨_, by rw [upd_ne naL]; exact h5⟩, _, at_app, by rw [List.length_append, hl]; rfl, sm.app (by omega) (by omega)⟩
        · have naL : a ≠ L := ne_of_none h2 nL
          have nLH : H L = none := s2.free nL (by rw [h2]; exact fun z => nomatch z)
          obtain ⟨s3, h3, ws3, hL, hl3, sm3⟩ := hp
          obtain ⟨W, w0, hW⟩ := fin L _ H3 rfl nLH naL s3 h3 ⟨ws3, hL, hl3, sm3⟩
          refine ⟨W, w0, fun μ σ H4 w4 => ?_⟩
          obtain ⟨ws4, _, rfl, s4, ⟨ns4, h4⟩, hL4, hl4, sm4, eμ, step⟩ := hW μ σ H4 w4
          refine ⟨.ref L, rfl, L, ws4, rfl, SqL.of hL4, sm4.big, _, _, rfl, rfl, _, rfl, ite2 (fun c => ?_) (fun c => ?_)⟩
          · have c2 : casesM ws4 > 400 := of_decide_eq_true c
            refine ⟨fun σ' H' => σ' = [some (.ref a), some (.int m), some (.int n0), some (.ref L), none] ∧ ∃ ws' : List Int, ws'.length = m ∧ Small ws' ∧ ws'.sum < ws4.sum ∧ H' = upd H4 L (LI ws'), fun σ' H' hN => ?_, ?_⟩
            · obtain ⟨rfl, ws', l1, l2, l3, rfl⟩ := hN
              exact step ws' l1 l2 l3
            · refine ⟨_, rfl, L, ws4, rfl, SqL.of hL4, by omega, fun mx hmx hle => ⟨_, _, rfl, rfl, _, rfl, _, rfl, .inl ⟨rfl, _, SqL.of hL4⟩, _, rfl, L, ws4, rfl, SqL.of hL4, by omega, fun mx2 hmx2 hle2 => ?_⟩⟩
              have emx : mx2 = mx := Int.le_antisymm (hle mx2 hmx2) (hle2 mx hmx)
              subst emx
              obtain ⟨j, b1, b2, b3, b4, b5, b6⟩ := body L H4 ws4 nLH naL s4 ⟨ns4, h4⟩ hL4 hl4 sm4 c2 mx2 hmx hle
              refine ⟨L, _, _, j, _, rfl, rfl, SqL.of hL4, rfl, by simp [flatV], get_ints b1, by show (mx2 == mx2) = true; exact beq_self_eq_true _, b2, L, _, _, j, rfl, rfl, hL4, by rw [List.length_map]; exact ixN_nat b3, rfl, _, b4, b5, b6, ?_⟩
              rw [← li_set]
          · exact ⟨_, rfl, q H4 L ws4 ns4 s4 nLH naL.symm hL4 h4 hl4 sm4 (Int.not_lt.mp fun z => c (decide_eq_true z))⟩
      · obtain ⟨W, w0, hW⟩ := fin B _ H2 rfl nBH nBa s2 ⟨ns1, h2⟩ ⟨ws, hB, hl, sm⟩
        refine ⟨W, w0, fun μ σ H4 w4 => ?_⟩
        obtain ⟨ws4, _, rfl, s4, ⟨ns4, h4⟩, hL4, hl4, sm4, eμ, step⟩ := hW μ σ H4 w4
        refine ⟨.ref B, rfl, B, ws4, rfl, SqL.of hL4, sm4.big, _, _, rfl, rfl, _, rfl, ite2 (fun c => ?_) (fun c => ?_)⟩
        · have c2 : casesM ws4 > 400 := of_decide_eq_true c
          refine ⟨fun σ' H' => σ' = [some (.ref a), some (.int m), some (.int n0), some (.ref B), none] ∧ ∃ ws' : List Int, ws'.length = m ∧ Small ws' ∧ ws'.sum < ws4.sum ∧ H' = upd H4 B (LI ws'), fun σ' H' hN => ?_, ?_⟩
          · obtain ⟨rfl, ws', l1, l2, l3, rfl⟩ := hN
            exact step ws' l1 l2 l3
          · refine ⟨_, rfl, B, ws4, rfl, SqL.of hL4, by omega, fun mx hmx hle => ⟨_, _, rfl, rfl, _, rfl, _, rfl, .inl ⟨rfl, _, SqL.of hL4⟩, _, rfl, B, ws4, rfl, SqL.of hL4, by omega, fun mx2 hmx2 hle2 => ?_⟩⟩
            have emx : mx2 = mx := Int.le_antisymm (hle mx2 hmx2) (hle2 mx hmx)
            subst emx
            obtain ⟨j, b1, b2, b3, b4, b5, b6⟩ := body B H4 ws4 nBH nBa s4 ⟨ns4, h4⟩ hL4 hl4 sm4 c2 mx2 hmx hle
            refine ⟨B, _, _, j, _, rfl, rfl, SqL.of hL4, rfl, by simp [flatV], get_ints b1, by show (mx2 == mx2) = true; exact beq_self_eq_true _, b2, B, _, _, j, rfl, rfl, hL4, by rw [List.length_map]; exact ixN_nat b3, rfl, _, b4, b5, b6, ?_⟩
            rw [← li_set]
        · exact ⟨_, rfl, q H4 B ws4 ns4 s4 nBH nBa.symm hL4 h4 hl4 sm4 (Int.not_lt.mp fun z => c (decide_eq_true z))⟩
end
/-! ### tables through calls -/
theorem tabG_same {H H' : Hp} {T : Addr} (s : Same H H') (h : GxR.TabG H T) : GxR.TabG H' T := by
  obtain ⟨ps, h1, h2⟩ := h
  exact ⟨ps, s _ _ h1, h2⟩
theorem tabG_but {H H' : Hp} {T d : Addr} {xs : List V} (s : SameBut d H H') (hd : H d = some (.lst xs)) (h : GxR.TabG H T) : GxR.TabG H' T := by
  obtain ⟨ps, h1, h2⟩ := h
  exact ⟨ps, s _ _ (ne_of h1 hd (fun z => nomatch z)) h1, h2⟩
theorem tabbed_lst {H H' : Hp} {T a : Addr} {xs : List V} (t : GxR.Tabbed T H H') (hT : GxR.TabG H T) (h : H a = some (.lst xs)) : H' a = some (.lst xs) := by
  obtain ⟨ps, h1, h2⟩ := hT
  rw [t.2 a (ne_of h h1 (fun z => nomatch z))]
  exact h
theorem draw4 (x : Int) : ∃ m : Nat, 1 ≤ m ∧ m ≤ 4 ∧ 1 + x % 4 = (m : Int) := ⟨(1 + x % 4).toNat, by omega, by omega, by omega⟩
/-! ### a heap without one address; what is kept apart from tables -/
def cutH (d : Addr) (H : Hp) : Hp := fun b => if b = d then none else H b
section
variable {d : Addr} {H H' : Hp}
theorem cut_at {b : Addr} (h : b ≠ d) : cutH d H b = H b := if_neg h
theorem cut_put {b : Addr} {o : HO} (h : b ≠ d) (e : H b = some o) : cutH d H b = some o := by rw [cut_at h]; exact e
theorem cut_some {b : Addr} {o : HO} (h : cutH d H b = some o) : b ≠ d ∧ H b = some o := by
  unfold cutH at h
  by_cases e : b = d
  · rw [if_pos e] at h
    cases h
  · rw [if_neg e] at h
    exact ⟨e, h⟩
theorem cut_same (s : SameBut d H H') : Same (cutH d H) (cutH d H') := fun b o h => by
  obtain ⟨n, e⟩ := cut_some h
  exact cut_put n (s b o n e)
theorem cut_le : Same (cutH d H) H := fun _ _ h => (cut_some h).2
theorem cut_upd {u : Addr} {o : HO} (h : u ≠ d) : cutH d (upd H u o) = upd (cutH d H) u o := by
  funext b
  by_cases e : b = d
  · rw [e, upd_ne (fun z => h z.symm)]
    unfold cutH
    rw [if_pos rfl, if_pos rfl]
  · rw [cut_at e]
    by_cases e2 : b = u
    · rw [e2, upd_same, upd_same]
    · rw [upd_ne e2, upd_ne e2, cut_at e]
/-- all but tables stay -/
def Ke (H H' : Hp) : Prop := ∀ b o, H b = some o → (∀ ps, o ≠ .tbl ps) → H' b = some o
theorem Ke.refl (H : Hp) : Ke H H := fun _ _ e _ => e
theorem Ke.trans {H1 H2 : Hp} (a : Ke H H1) (b : Ke H1 H2) : Ke H H2 := fun c o e n => b c o (a c o e n) n
theorem Ke.of (s : Same H H') : Ke H H' := fun b o e _ => s b o e
theorem Ke.cut (a : Ke H H') : Ke (cutH d H) (cutH d H') := fun b o e n => by
  obtain ⟨n1, e1⟩ := cut_some e
  exact cut_put n1 (a b o e1 n)
theorem Ke.lst (a : Ke H H') {p : Addr} {xs : List V} (h : H p = some (.lst xs)) : H' p = some (.lst xs) := a _ _ h fun _ z => nomatch z
theorem Ke.tup (a : Ke H H') {p : Addr} {xs : List V} (h : H p = some (.tup xs)) : H' p = some (.tup xs) := a _ _ h fun _ z => nomatch z
theorem Ext.ke {T : List Addr} (e : Ext T H H') : Ke H H' := e.ext
theorem tb_same {T : List Addr} (s : Same H H') (h : Tb T H) : Tb T H' := fun t ht => tabG_same s (h t ht)
theorem tb_but {T : List Addr} {xs : List V} (s : SameBut d H H') (hd : H d = some (.lst xs)) (h : Tb T H) : Tb T H' := fun t ht => tabG_but s hd (h t ht)
theorem TiersAt.ke (e : Ke H H') {a : Addr} {ts : List (Int × Int)} (h : TiersAt H a ts) : TiersAt H' a ts := by
  obtain ⟨us, h1, h2, h3⟩ := h
  exact ⟨us, e.lst h1, h2, fun i u t a b => e.tup (h3 i u t a b)⟩
theorem OfrAt.ke (e : Ke H H') {a : Addr} : ∀ {o : Ofr}, OfrAt H a o → OfrAt H' a o
  | .pack c p, ⟨b, h1, h2⟩ => ⟨b, e.tup h1, e.lst h2⟩
  | .many c ts, ⟨b, t, h1, h2, h3⟩ => ⟨b, t, e.tup h1, e.lst h2, h3.ke e⟩
  | .add c p k, ⟨b, h1, h2⟩ => ⟨b, e.tup h1, e.lst h2⟩
theorem ShopAt.ke (e : Ke H H') {a : Addr} {os : List Ofr} (h : ShopAt H a os) : ShopAt H' a os := by
  obtain ⟨vs, h1, h2, h3⟩ := h
  exact ⟨vs, e.lst h1, h2, fun i v o a b => (h3 i v o a b).ke e⟩
theorem TiersAt.same (s : Same H H') {a : Addr} {ts : List (Int × Int)} (h : TiersAt H a ts) : TiersAt H' a ts := h.ke (.of s)
/-- a tier more -/
theorem TiersAt.push {F u : Addr} {ts : List (Int × Int)} {t : Int × Int} (h : TiersAt H F ts) (nu : H u = none) : ∃ xs, H F = some (.lst xs) ∧ xs.length = ts.length ∧ TiersAt (upd (upd H u (.tup [.int t.1, .int t.2])) F (.lst (xs ++ [.ref u]))) F (ts ++ [t]) := by
  obtain ⟨us, h1, h2, h3⟩ := h
  refine ⟨_, h1, by rw [List.length_map]; exact h2, us ++ [u], ?_, by rw [List.length_append, List.length_append, h2]; rfl, fun i v t' hv ht => ?_⟩
  · rw [upd_same, List.map_append]
    rfl
  · by_cases z : i < us.length
    · rw [List.getElem?_append_left z] at hv
      rw [List.getElem?_append_left (by omega)] at ht
      have e := h3 i v t' hv ht
      rw [upd_ne (ne_of e h1 (fun z => nomatch z)), upd_ne (ne_of_none e nu)]
      exact e
    · rw [List.getElem?_append_right (by omega)] at hv
      rw [List.getElem?_append_right (by omega)] at ht
      rw [← h2] at ht
      have ei : i - us.length = 0 := by
        rcases Nat.eq_zero_or_pos (i - us.length) with z | z
        · exact z
        · rw [List.getElem?_eq_none (by rw [List.length_singleton]; omega)] at hv
          cases hv
      rw [ei] at hv ht
      cases Option.some.inj hv
      cases Option.some.inj ht
      rw [upd_ne (fun z => by rw [z, h1] at nu; cases nu), upd_same]
end
/-! ### offers within bounds -/
def PriceT (ts : List (Int × Int)) : Prop := ∀ t ∈ ts, 0 ≤ t.2 ∧ t.2 < 1000000000000
theorem cut_off {d : Addr} {H : Hp} {o : HO} : cutH d (upd H d o) = cutH d H := by
  funext b
  by_cases e : b = d
  · unfold cutH
    rw [if_pos e, if_pos e]
  · rw [cut_at e, cut_at e, upd_ne e]
theorem cut_mono {d : Addr} {H H' : Hp} (s : Same H H') : Same (cutH d H) (cutH d H') := cut_same (.of s)
theorem TiersAt.cut {H : Hp} {S t : Addr} {ts : List (Int × Int)} {xs : List V} (h : TiersAt H t ts) (n : t ≠ S) (hS : H S = some (.lst xs)) : TiersAt (cutH S H) t ts := by
  obtain ⟨us, h1, h2, h3⟩ := h
  refine ⟨us, cut_put n h1, h2, fun i u t a b => ?_⟩
  have e := h3 i u t a b
  exact cut_put (ne_of e hS (fun z => nomatch z)) e
/-- contents of an offer: small, not all noughts, with at most 400 lesser ones -/
def SmallR (c : List Int) : Prop := Small c ∧ casesM c ≤ 400 ∧ ∃ x ∈ c, 0 < x
def FitO (m : Nat) : Ofr → Prop
  | .pack c p => c.length = m ∧ SmallR c ∧ 0 ≤ p ∧ p < 1000000000000
  | .many c ts => c.length = m ∧ SmallR c ∧ PriceT ts
  | .add c p _ => c.length = m ∧ SmallR c ∧ 0 ≤ p ∧ p < 1000000000000
def FitS (m : Nat) (os : List Ofr) : Prop := ∀ o ∈ os, FitO m o
theorem FitO.cont {m : Nat} : ∀ {o : Ofr}, FitO m o → o.cont.length = m ∧ SmallR o.cont
  | .pack _ _, h => ⟨h.1, h.2.1⟩
  | .many _ _, h => ⟨h.1, h.2.1⟩
  | .add _ _ _, h => ⟨h.1, h.2.1⟩
theorem FitS.fit {m : Nat} {os : List Ofr} (hm : m ≤ 4) (h : FitS m os) : Fit os := fun o ho => by
  refine ⟨?_, fun c p k e => ?_⟩
  · have := (h o ho).cont.1
    omega
  · subst e
    have := h _ ho
    exact ⟨by have := this.2.2.1; omega, by have := this.2.2.2; omega⟩
theorem FitS.push {m : Nat} {os : List Ofr} {o : Ofr} (h : FitS m os) (ho : FitO m o) : FitS m (os ++ [o]) := fun x hx => by
  rcases List.mem_append.mp hx with z | z
  · exact h x z
  · rw [List.mem_singleton.mp z]
    exact ho
theorem GoodO.mono {os : List Ofr} {i : Nat} {x : Ofr} : ∀ {o : Ofr}, GoodO os i o → GoodO (os ++ [x]) i o
  | .pack _ _, _ => True.intro
  | .many _ _, h => h
  | .add _ _ _, ⟨j, e, hj, c, p, h⟩ => ⟨j, e, hj, c, p, by rw [List.getElem?_append_left (List.getElem?_eq_some_iff.mp h).1]; exact h⟩
theorem Good.push {os : List Ofr} {o : Ofr} (h : Good os) (h8 : os.length < 8) (ho : GoodO os os.length o) : Good (os ++ [o]) := by
  refine ⟨by rw [List.length_append, List.length_singleton]; omega, fun i x hx => ?_⟩
  by_cases z : i < os.length
  · rw [List.getElem?_append_left z] at hx
    exact (h.2 i x hx).mono
  · have hi := (List.getElem?_eq_some_iff.mp hx).1
    rw [List.length_append, List.length_singleton] at hi
    have ei : i = os.length := by omega
    rw [List.getElem?_append_right (by omega), ei, Nat.sub_self] at hx
    cases Option.some.inj hx
    rw [ei]
    exact ho.mono
/-! ### _law_content, _law_price, _law_tiers -/
abbrev s_law_content : Stmt := topS 37
abbrev N_law_content : List Str := ["_law_draws_here", "_law_many", "_law_found"]
theorem sc_law_content : FnScope N_law_content ["_law_draws_here", "_law_many"] (defScope s_law_content) := ⟨rfl, rfl, rfl, by decide +kernel, rfl, by decide +kernel, by decide +kernel⟩

abbrev s_law_price : Stmt := topS 38
abbrev N_law_price : List Str := ["_law_draws_here", "_law_number"]
theorem sc_law_price : FnScope N_law_price ["_law_draws_here"] (defScope s_law_price) := ⟨rfl, rfl, rfl, by decide +kernel, rfl, by decide +kernel, by decide +kernel⟩

theorem zero_of_sum {ws : List Int} (h : ∀ w ∈ ws, 0 ≤ w) (z : ws.sum = 0) : ∀ w ∈ ws, w = 0 := fun w hw => by
  obtain ⟨j, hj, e⟩ := List.getElem_of_mem hw
  have := sum_get (j := j) (x := w) h (by rw [List.getElem?_eq_getElem hj, e])
  have := h w hw
  omega
theorem some_of_sum : ∀ {ws : List Int}, (∀ w ∈ ws, 0 ≤ w) → ws.sum ≠ 0 → ∃ x ∈ ws, 0 < x
  | [], _, z => absurd rfl z
  | a :: r, h, z => by
    by_cases ha : 0 < a
    · exact ⟨a, List.mem_cons_self, ha⟩
    · have h0 := h a List.mem_cons_self
      obtain ⟨x, hx, hp⟩ := some_of_sum (ws := r) (fun w hw => h w (List.mem_cons_of_mem _ hw)) (fun e => z (by rw [List.sum_cons, e]; omega))
      exact ⟨x, List.mem_cons_of_mem _ hx, hp⟩
theorem foldl_set : ∀ {ws : List Int} {j : Nat} {v : Int} (p : Int), (∀ w ∈ ws, w = 0) → j < ws.length → (ws.set j v).foldl (fun p w => p * (w + 1)) p = p * (v + 1)
  | a :: r, 0, v, p, h, _ => by
    show r.foldl (fun p w => p * (w + 1)) (p * (v + 1)) = _
    exact casesM_zero r _ fun w hw => h w (List.mem_cons_of_mem _ hw)
  | a :: r, j + 1, v, p, h, hj => by
    have e : a = 0 := h a List.mem_cons_self
    subst e
    show (r.set j v).foldl (fun p w => p * (w + 1)) (p * (0 + 1)) = _
    rw [foldl_set _ (fun w hw => h w (List.mem_cons_of_mem _ hw)) (by simpa using hj)]
    rw [Int.zero_add, Int.mul_one]
theorem casesM_set {ws : List Int} {j : Nat} {v : Int} (h : ∀ w ∈ ws, w = 0) (hj : j < ws.length) : casesM (ws.set j v) = v + 1 := by
  unfold casesM
  rw [foldl_set 1 h hj, Int.one_mul]
def sp_content : Sp := fun vs H Q _ => ∃ (a : Addr) (ns : List Int) (m : Nat), vs = [.ref a, .int m] ∧ H a = some (LI ns) ∧ 1 ≤ m ∧ m ≤ 4 ∧
  ∀ H' p ws ns', SameBut a H H' → H p = none → p ≠ a → H' p = some (LI ws) → H' a = some (LI ns') → ws.length = m → SmallR ws → Q (.ref p) H'
def sp_price : Sp := fun vs H Q _ => ∃ (a : Addr) (ns : List Int), vs = [.ref a] ∧ H a = some (LI ns) ∧ ∀ H' ns' p, SameBut a H H' → H' a = some (LI ns') → 0 ≤ p → p < 1000000000000 → Q (.int p) H'
section
variable {P : Program} {w : World} {K : PySem.W.Frag} {mg : Str → Option Value} {base : Heap}
theorem ok_content {f f1 f2 f3 : Addr} {fd fd1 fd2 fd3 : FuncData} {k : Nat} (M : Names mg) (D : Def K mg "_law_content" s_law_content ["_law_draws_here", "_law_many"] f fd) (D_law_want : Def K mg "_law_want" s_law_want ["_law_draws_here", "_law_many"] f1 fd1) (D_law_pop : Def K mg "_law_pop" s_law_pop ["_law_draws_here"] f2 fd2) (D_law_cases : Def K mg "_law_cases" s_law_cases ["_law_want_here"] f3 fd3) :
    FnOk P w K mg base CX0 (k + 3) f fd ["_law_draws_here", "_law_many"] sp_content := by
  have G_law_want : FnOk P w K mg base CX0 (k + 2) f1 fd1 ["_law_draws_here", "_law_many"] sp_want := ok_want M D_law_want D_law_pop D_law_cases
  have G_law_pop : FnOk P w K mg base CX0 (k + 2) f2 fd2 ["_law_draws_here"] sp_pop := ok_pop D_law_pop
  refine D.F.ok sc_law_content (fun vs H Q E h => ?_) (fun cdv A outer s H vs Q E hr h => ?_)
  · obtain ⟨a, ns, m, rfl, _⟩ := h
    rfl
  · obtain ⟨a, ns, m, rfl, ha, hm1, hm4, q⟩ := h
    refine ⟨_, (pss_cons (ps_set (i := 2) sc_law_content.nd rfl (Or.inl rfl) (pe_call G_law_want hr (by rfl) D_law_want.g D_law_want.F.kp D_law_want.b .nil pass0 (pa_cons (pv 0) (pa_cons (pv 1) pa_nil))))
  (pss_cons (ps_if (pt_cmpR op_eq (pe_callB (cr_sum rfl) (by rfl) M.sum (by decide +kernel) (pa_cons (pv 2) pa_nil)) pe_int (nomark _))
   (pss_one (ps_asg (pe_op op_add pe_int (pe_op op_mod (pe_call G_law_pop hr (by rfl) D_law_pop.g D_law_pop.F.kp D_law_pop.b .nil pass0 (pa_cons (pv 0) pa_nil)) pe_int)) (pg_sub (pv 2) (pe_op op_mod (pe_call G_law_pop hr (by rfl) D_law_pop.g D_law_pop.F.kp D_law_pop.b .nil pass0 (pa_cons (pv 0) pa_nil)) (pv 1)) set_list)))
   pss_nil)
  (pss_one (ps_ret (pv 2))))), ?_⟩
    refine ⟨_, rfl, _, rfl, a, ns, m, rfl, ha, hm1, hm4, fun H1 p ws ns1 s1 np npa hp ha1 hl sm cas => ?_⟩
    refine ⟨_, rfl, p, ws, rfl, SqL.of hp, rfl, _, rfl, ite2 (fun zs => ?_) (fun zs => ?_)⟩
    · refine ⟨_, rfl, a, ns1, rfl, ha1, fun H2 s2 ha2 => ⟨_, _, rfl, rfl, (by show (0 : Int) < _; decide), _, _, rfl, rfl, ?_⟩⟩
      refine ⟨_, rfl, _, rfl, a, _, rfl, ha2, fun H3 s3 ha3 => ?_⟩
      have hp3 := s3 _ _ npa (s2 _ _ npa hp)
      obtain ⟨j, hj, ej⟩ := mod_at (i := ns1.tail.headD 0) (n := m) (by omega)
      refine ⟨_, rfl, _, _, rfl, rfl, (by show (0 : Int) < (m : Int); omega), p, _, _, j, rfl, rfl, hp3, (by rw [ej, List.length_map]; exact ixN_nat (by omega)), _, rfl, ?_⟩
      refine q _ p (ws.set j (1 + ns1.headD 0 % 9)) ns1.tail.tail (((s1.trans s2).trans s3).new np) np npa ?_ ?_ (by rw [List.length_set]; exact hl) ⟨fun x hx => ?_, ?_, ?_⟩
      · exact at_set
      · rw [upd_ne npa.symm]
        exact ha3
      rotate_left
      · have z0 : ws.sum = 0 := V.int.inj (of_decide_eq_true zs)
        rw [casesM_set (fun w hw => zero_of_sum (fun w hw => (sm w hw).1) z0 w hw) (by omega)]
        omega
      · exact ⟨_, List.mem_of_getElem? (List.getElem?_set_self (by omega)), by omega⟩
      · rcases List.mem_or_eq_of_mem_set hx with z | z
        · exact sm x z
        · rw [z]
          omega
    · exact ⟨_, rfl, q H1 p ws ns1 s1 np npa hp ha1 hl ⟨sm, cas, some_of_sum (fun w hw => (sm w hw).1) fun z => zs (decide_eq_true (congrArg V.int z))⟩⟩
theorem menu4 {a b c e : Int} {j : Nat} (h : j < 4) (h1 : 0 ≤ a ∧ a < 1000000000000) (h2 : 0 ≤ b ∧ b < 1000000000000) (h3 : 0 ≤ c ∧ c < 1000000000000) (h4 : 0 ≤ e ∧ e < 1000000000000) : ∃ v : Int, ([V.int a, V.int b, V.int c, V.int e] : List V)[j]? = some (.int v) ∧ 0 ≤ v ∧ v < 1000000000000 :=
  match j, h with
  | 0, _ => ⟨a, rfl, h1⟩
  | 1, _ => ⟨b, rfl, h2⟩
  | 2, _ => ⟨c, rfl, h3⟩
  | 3, _ => ⟨e, rfl, h4⟩
theorem ok_price {f f1 : Addr} {fd fd1 : FuncData} {k : Nat} (D : Def K mg "_law_price" s_law_price ["_law_draws_here"] f fd) (D_law_pop : Def K mg "_law_pop" s_law_pop ["_law_draws_here"] f1 fd1) :
    FnOk P w K mg base CX0 (k + 2) f fd ["_law_draws_here"] sp_price := by
  have G_law_pop : FnOk P w K mg base CX0 (k + 1) f1 fd1 ["_law_draws_here"] sp_pop := ok_pop D_law_pop
  refine D.F.ok sc_law_price (fun vs H Q E h => ?_) (fun cdv A outer s H vs Q E hr h => ?_)
  · obtain ⟨a, ns, rfl, _⟩ := h
    rfl
  · obtain ⟨a, ns, rfl, ha, q⟩ := h
    refine ⟨_, (pss_cons (ps_set (i := 1) sc_law_price.nd rfl (Or.inl rfl) (pe_call G_law_pop hr (by rfl) D_law_pop.g D_law_pop.F.kp D_law_pop.b .nil pass0 (pa_cons (pv 0) pa_nil)))
  (pss_one (ps_ret (pe_ix ix_list (pe_lst (pa_cons (pe_op op_mod (pe_op op_fdiv (pv 1) pe_int) pe_int) (pa_cons (pe_op op_mod (pe_op op_fdiv (pv 1) pe_int) pe_int) (pa_cons pe_int (pa_cons (pe_op op_mod (pe_op op_mul (pv 1) pe_int) (pe_op op_pow pe_int pe_int)) pa_nil))))) (pe_op op_mod (pv 1) pe_int) (fun _ _ => rfl))))), ?_⟩
    refine ⟨_, rfl, a, ns, rfl, ha, fun H1 s1 ha1 => ?_⟩
    generalize ns.headD 0 = n
    refine ⟨_, rfl, _, _, rfl, rfl, ⟨by decide, by decide⟩, _, _, rfl, rfl, (by show (0 : Int) < _; decide), ?_⟩
    refine ⟨_, rfl, _, _, rfl, rfl, ⟨by decide, by decide⟩, _, _, rfl, rfl, (by show (0 : Int) < _; decide), ?_⟩
    refine ⟨_, rfl, _, _, rfl, rfl, .inr ⟨by decide, by decide⟩, _, _, rfl, rfl, ⟨by decide, by decide, by decide⟩, _, _, rfl, rfl, (by show (0 : Int) < _; decide), by show 4 ≤ sizeLine; decide, fun e ne => ?_⟩
    obtain ⟨j, hj, ej⟩ := mod_at (i := n) (n := 4) (by decide)
    have e12 : (10 : Int) ^ (12 : Int).toNat = 1000000000000 := by decide
    obtain ⟨v, hv, hv0, hv1⟩ := menu4 (a := n / 4 % 30) (b := n / 4 % 1000) (c := 0) (e := n * 7919 % 10 ^ (12 : Int).toNat) hj (by omega) (by omega) (by omega) (by rw [e12]; omega)
    refine ⟨_, rfl, _, _, rfl, rfl, (by show (0 : Int) < _; decide), e, _, _, _, rfl, rfl, SqL.of upd_same, at_of ej hv, ?_⟩
    exact q _ _ v (s1.trans (.of (same_upd ne))) (by rw [upd_ne (ne_of_none ha1 ne)]; exact ha1) hv0 hv1
end
/-! ### _law_tiers -/
abbrev s_law_tiers : Stmt := topS 39
abbrev N_law_tiers : List Str := ["_law_draws_here", "_law_found", "_law_at", "_law_k", "_law_number"]
theorem sc_law_tiers : FnScope N_law_tiers ["_law_draws_here"] (defScope s_law_tiers) := ⟨rfl, rfl, rfl, by decide +kernel, rfl, by decide +kernel, by decide +kernel⟩

def sp_tiers : Sp := fun vs H Q _ => ∃ (a : Addr) (ns : List Int), vs = [.ref a] ∧ H a = some (LI ns) ∧
  ∀ H' p ts ns', SameBut a H H' → H p = none → TiersAt (cutH a H') p ts → GoodT ts → PriceT ts → H' a = some (LI ns') → Q (.ref p) H'
structure RiseT (ts : List (Int × Int)) (z : Int) (i : Nat) : Prop where
  few : ts.length ≤ i
  none : ts = [] → z = 1 ∧ i = 0
  one : ∀ t, ts[0]? = some t → t.1 = 1
  most : ∀ t ∈ ts, t.1 ≤ 12 ∧ t.1 < z
  rise : ∀ (i : Nat) a b, ts[i]? = some a → ts[i + 1]? = some b → a.1 < b.1
  pr : PriceT ts
theorem RiseT.push {ts : List (Int × Int)} {z z' p : Int} {i : Nat} (h : RiseT ts z i) (hz : z < 13) (hz' : z < z') (h0 : 0 ≤ p) (h1 : p < 1000000000000) : RiseT (ts ++ [(z, p)]) z' (i + 1) := by
  refine ⟨?_, fun e => ?_, fun t e => ?_, fun t ht => ?_, fun j a b ha hb => ?_, fun t ht => ?_⟩
  · have := h.few
    rw [List.length_append, List.length_singleton]
    omega
  · simp at e
  · cases hts : ts with
    | nil =>
      rw [hts] at e
      cases Option.some.inj e
      exact (h.none hts).1
    | cons x r =>
      rw [hts] at e
      exact h.one t (by rw [hts]; exact e)
  · rcases List.mem_append.mp ht with m | m
    · have := h.most t m
      exact ⟨this.1, by omega⟩
    · rw [List.mem_singleton.mp m]
      exact ⟨by show z ≤ 12; omega, hz'⟩
  · by_cases c : j + 1 < ts.length
    · rw [List.getElem?_append_left (by omega)] at ha
      rw [List.getElem?_append_left c] at hb
      exact h.rise j a b ha hb
    · have hj : j + 1 = ts.length := by
        have := (List.getElem?_eq_some_iff.mp hb).1
        rw [List.length_append, List.length_singleton] at this
        omega
      rw [List.getElem?_append_left (by omega)] at ha
      rw [List.getElem?_append_right (by omega), hj, Nat.sub_self] at hb
      cases Option.some.inj hb
      exact (h.most a (List.mem_of_getElem? ha)).2
  · rcases List.mem_append.mp ht with m | m
    · exact h.pr t m
    · rw [List.mem_singleton.mp m]
      exact ⟨h0, h1⟩
theorem RiseT.pass {ts : List (Int × Int)} {z z' : Int} {i : Nat} (h : RiseT ts z i) (hz : ¬z < 13) (hz' : z < z') : RiseT ts z' (i + 1) := by
  refine ⟨by have := h.few; omega, fun e => ?_, h.one, fun t ht => ?_, h.rise, h.pr⟩
  · have := h.none e
    omega
  · have := h.most t ht
    exact ⟨this.1, by omega⟩
theorem RiseT.good {ts : List (Int × Int)} {z : Int} {i : Nat} (h : RiseT ts z i) (h1 : 1 ≤ i) (h4 : i ≤ 4) : GoodT ts := by
  refine ⟨?_, by have := h.few; omega, h.one, fun t ht => (h.most t ht).1, h.rise⟩
  rcases Nat.eq_zero_or_pos ts.length with z | z
  · have := (h.none (List.eq_nil_of_length_eq_zero z)).2
    omega
  · exact z
theorem menu3 {j : Nat} (h : j < 3) : ∃ v : Int, ([V.int 1, V.int 3, V.int 8] : List V)[j]? = some (.int v) ∧ 0 < v :=
  match j, h with
  | 0, _ => ⟨1, rfl, by decide⟩
  | 1, _ => ⟨3, rfl, by decide⟩
  | 2, _ => ⟨8, rfl, by decide⟩
section
variable {P : Program} {w : World} {K : PySem.W.Frag} {mg : Str → Option Value} {base : Heap}
theorem ok_tiers {f f1 f2 : Addr} {fd fd1 fd2 : FuncData} {k : Nat} (M : Names mg) (D : Def K mg "_law_tiers" s_law_tiers ["_law_draws_here"] f fd) (D_law_price : Def K mg "_law_price" s_law_price ["_law_draws_here"] f1 fd1) (D_law_pop : Def K mg "_law_pop" s_law_pop ["_law_draws_here"] f2 fd2) :
    FnOk P w K mg base CX0 (k + 3) f fd ["_law_draws_here"] sp_tiers := by
  have G_law_price : FnOk P w K mg base CX0 (k + 2) f1 fd1 ["_law_draws_here"] sp_price := ok_price D_law_price D_law_pop
  have G_law_pop : FnOk P w K mg base CX0 (k + 2) f2 fd2 ["_law_draws_here"] sp_pop := ok_pop D_law_pop
  refine D.F.ok sc_law_tiers (fun vs H Q E h => ?_) (fun cdv A outer s H vs Q E hr h => ?_)
  · obtain ⟨a, ns, rfl, _⟩ := h
    rfl
  · obtain ⟨a, ns, rfl, ha, q⟩ := h
    refine ⟨_, (pss_cons (ps_set (i := 1) sc_law_tiers.nd rfl (Or.inl rfl) (pe_lst pa_nil))
  (pss_cons (ps_set (i := 2) sc_law_tiers.nd rfl (Or.inl rfl) pe_int)
  (pss_cons (ps_for PassesOwn.never rfl (pi_range1 (by rfl) M.range (pa_cons (pe_op op_add pe_int (pe_op op_mod (pe_call G_law_pop hr (by rfl) D_law_pop.g D_law_pop.F.kp D_law_pop.b .nil pass0 (pa_cons (pv 0) pa_nil)) pe_int)) pa_nil)) (pg_name (i := 3) sc_law_tiers.nd rfl (Or.inl rfl))
   (pss_cons (ps_set (i := 4) sc_law_tiers.nd rfl (Or.inl rfl) (pe_call G_law_pop hr (by rfl) D_law_pop.g D_law_pop.F.kp D_law_pop.b .nil pass0 (pa_cons (pv 0) pa_nil)))
  (pss_cutI (ps_if (pt_cmpR op_lt (pv 2) pe_int (nomark _))
   (pss_one (ps_expr (pe_bm PySem.F.plainAttrs_list PySem.F.slot_list_append PySem.F.type_list_append mt_append (pv 1) (pa_cons (pe_tup (pa_cons (pv 2) (pa_cons (pe_call G_law_price hr (by rfl) D_law_price.g D_law_price.F.kp D_law_price.b .nil pass0 (pa_cons (pv 0) pa_nil)) pa_nil))) pa_nil))))
   pss_nil)
  (pss_one (ps_set (i := 2) sc_law_tiers.nd rfl (Or.inl rfl) (pe_op op_add (pe_op op_add (pv 2) pe_int) (pe_op op_mod (pv 4) (pe_ix ix_list (pe_lst (pa_cons pe_int (pa_cons pe_int (pa_cons pe_int pa_nil)))) (pe_op op_mod (pe_op op_fdiv (pv 4) pe_int) pe_int) (fun _ _ => rfl)))))))))
  (pss_one (ps_ret (pv 1)))))), ?_⟩
    refine ⟨Nat.zero_le _, fun F nF => ?_⟩
    have naF : F ≠ a := (ne_of_none ha nF).symm
    have ha0 : upd H F (.lst []) a = some (LI ns) := by rw [upd_ne naF.symm]; exact ha
    refine ⟨_, rfl, a, ns, rfl, ha0, fun H1 s1 ha1 => ?_⟩
    have s1' : SameBut a H H1 := (SameBut.of (same_upd nF)).trans s1
    have hF1 : H1 F = some (.lst []) := s1 _ _ naF upd_same
    obtain ⟨m, hm1, hm4, em⟩ := draw4 (ns.headD 0)
    refine ⟨_, _, rfl, rfl, (by show (0 : Int) < _; decide), _, _, rfl, rfl, _, rfl, by omega, by omega, for_range (n := (1 + ns.headD 0 % 4).toNat) (fun i σ H' => ∃ z y3 y4, σ = [some (.ref a), some (.ref F), some (.int z), y3, y4] ∧ SameBut a H H' ∧ (∃ ds, H' a = some (LI ds)) ∧ ∃ ts, TiersAt (cutH a H') F ts ∧ RiseT ts z i) ⟨1, none, none, rfl, s1', ⟨_, ha1⟩, [], ⟨[], cut_put naF hF1, rfl, fun i u t hu => by simp at hu⟩, ⟨Nat.le_refl _, fun _ => ⟨rfl, rfl⟩, fun t e => by simp at e, fun t ht => by simp at ht, fun i a b ha => by simp at ha, fun t ht => by simp at ht⟩⟩ (fun i σ H2 hi hp => ?_) (fun σ H2 hp => ?_)⟩
    · obtain ⟨z, y3, y4, rfl, s2, ⟨ds, ha2⟩, ts, hts, rs⟩ := hp
      refine ⟨_, rfl, a, ds, rfl, ha2, fun H3 s3 ha3 => ?_⟩
      have hts3 := hts.same (cut_same s3)
      generalize ds.headD 0 = n
      refine ⟨fun σ' H' => ∃ ts', σ' = [some (.ref a), some (.ref F), some (.int z), some (.int (0 + (i : Nat))), some (.int n)] ∧ SameBut a H H' ∧ (∃ ds, H' a = some (LI ds)) ∧ TiersAt (cutH a H') F ts' ∧ ∀ z', z < z' → RiseT ts' z' (i + 1), ?_, fun σ6 H6 hI => ?_⟩
      · refine ⟨_, rfl, _, _, rfl, rfl, _, rfl, ite2 (fun c => ?_) (fun c => ?_)⟩
        · have c' : z < 13 := of_decide_eq_true c
          have hF3 : ∃ xs, H3 F = some (.lst xs) := by
            obtain ⟨us, h1, _⟩ := id hts3
            exact ⟨_, (cut_some h1).2⟩
          obtain ⟨xs3, hF3⟩ := hF3
          refine ⟨_, rfl, .inl ⟨rfl, _, SqL.of hF3⟩, _, rfl, _, rfl, a, _, rfl, ha3, fun H4 ns4 p s4 ha4 p0 p1 => ⟨by show 2 ≤ sizeLine; decide, fun u nu => ?_⟩⟩
          have hts4 := hts3.same (cut_same s4)
          have nua : u ≠ a := (ne_of_none ha4 nu).symm
          have nuc : cutH a H4 u = none := by rw [cut_at nua]; exact nu
          obtain ⟨xs, hx, hxl, hpu⟩ := hts4.push (t := (z, p)) nuc
          have hF4 := (cut_some hx).2
          have few := rs.few
          refine ⟨F, _, _, rfl, rfl, (by rw [upd_ne (ne_of_none hF4 nu)]; exact hF4), szL' (by omega), ts ++ [(z, p)], rfl, ?_, ⟨ns4, ?_⟩, ?_, fun z' hz => rs.push c' hz p0 p1⟩
          · exact (((s2.trans s3).trans s4).trans (.of (same_upd nu))).new nF
          · rw [upd_ne naF.symm, upd_ne nua.symm]
            exact ha4
          · rw [cut_upd naF, cut_upd nua]
            exact hpu
        · exact ⟨ts, rfl, s2.trans s3, ⟨_, ha3⟩, hts3, fun z' hz => rs.pass (fun y => c (decide_eq_true y)) hz⟩
      · obtain ⟨ts', rfl, s6, ⟨ds6, ha6⟩, hts6, hr6⟩ := hI
        refine ⟨_, rfl, _, _, rfl, rfl, _, rfl, by show 3 ≤ sizeLine; decide, fun e ne => ?_⟩
        obtain ⟨j, hj, ej⟩ := mod_at (i := n / 8) (n := 3) (by decide)
        obtain ⟨v, hv, hv0⟩ := menu3 hj
        have nea : e ≠ a := (ne_of_none ha6 ne).symm
        refine ⟨_, rfl, _, _, rfl, rfl, ⟨by decide, by decide⟩, _, _, rfl, rfl, (by show (0 : Int) < _; decide), e, _, _, _, rfl, rfl, SqL.of upd_same, at_of ej hv, _, _, rfl, rfl, hv0, _, _, rfl, rfl, ?_⟩
        have := Int.emod_nonneg n (show v ≠ 0 by omega)
        exact ⟨_, _, _, rfl, s6.trans (.of (same_upd ne)), ⟨ds6, by rw [upd_ne nea.symm]; exact ha6⟩, ts', hts6.same (cut_same (.of (same_upd ne))), hr6 _ (by omega)⟩
    · obtain ⟨z, y3, y4, rfl, s2, ⟨ds, ha2⟩, ts, hts, rs⟩ := hp
      exact ⟨_, rfl, q H2 F ts ds s2 nF hts (rs.good (by omega) (by omega)) rs.pr ha2⟩
end
/-! ### lines as data -/
abbrev dInts (ns : List Int) : PyData := .list (ns.map PyData.int)
def dLine (l : Ln) : PyData := .tuple [.int l.p, .int l.c, dInts l.as]
abbrev dLines (ls : List Ln) : PyData := .list (ls.map dLine)
theorem LineAt.dp {K : PySem.W.Frag} {H : Hp} {a : Addr} {l : Ln} (h : LineAt H a l) : Dp K H (.ref a) (dLine l) := by
  obtain ⟨b, h1, h2⟩ := h
  exact .tup (SqT.of h1) (.cons (.int _) (.cons (.int _) (.cons (dp_ints (SqL.of h2)) .nil)))
theorem LineAt.same {H H' : Hp} (s : Same H H') {a : Addr} {l : Ln} (h : LineAt H a l) : LineAt H' a l := by
  obtain ⟨b, h1, h2⟩ := h
  exact ⟨b, s _ _ h1, s _ _ h2⟩
theorem LineAt.ke {H H' : Hp} (s : Ke H H') {a : Addr} {l : Ln} (h : LineAt H a l) : LineAt H' a l := by
  obtain ⟨b, h1, h2⟩ := h
  exact ⟨b, s.tup h1, s.lst h2⟩
theorem dp_lines {K : PySem.W.Frag} {H : Hp} : ∀ {as : List Addr} {ls : List Ln}, Al (LineAt H) as ls → DpAll K H (as.map V.ref) (ls.map dLine)
  | [], [], _ => .nil
  | [], _ :: _, h => h.elim
  | _ :: _, [], h => h.elim
  | _ :: _, _ :: _, h => .cons h.1.dp (dp_lines h.2)
theorem lay_line (l : Ln) : PyData.canLay0 (dLine l) = true := by
  have := lay_ints l.as
  simp [dLine, PyData.canLayAll0, PyData.canLay0, this]
theorem depth_line (l : Ln) : PyData.depth (dLine l) ≤ 2 := by
  have := depth_ints l.as
  simp only [dLine, PyData.depth, PyData.depthAll, this]
  decide
theorem lay_lines : ∀ ls : List Ln, PyData.canLayAll0 (ls.map dLine) = true
  | [] => by simp [PyData.canLayAll0]
  | l :: r => by
    have ih := lay_lines r
    have h1 := lay_line l
    simp [PyData.canLayAll0, ih, h1]
theorem depth_lines : ∀ ls : List Ln, PyData.depthAll (ls.map dLine) ≤ 2
  | [] => by simp [PyData.depthAll]
  | l :: r => by
    have ih := depth_lines r
    have h1 := depth_line l
    simp only [List.map_cons, PyData.depthAll]
    omega
theorem shaped_lines (ls : List Ln) : SeqAt.shaped (dLines ls) = true := by
  unfold SeqAt.shaped
  have h1 : PyData.canLay0 (dLines ls) = true := by
    simp only [PyData.canLay0]
    exact lay_lines ls
  have h2 : PyData.depth (dLines ls) ≤ 64 := by
    have := depth_lines ls
    simp only [PyData.depth]
    omega
  rw [h1, decide_eq_true h2]
  rfl
theorem shaped_line (l : Ln) : SeqAt.shaped (dLine l) = true := by
  unfold SeqAt.shaped
  have h2 : PyData.depth (dLine l) ≤ 64 := Nat.le_trans (depth_line l) (by decide)
  rw [lay_line l, decide_eq_true h2]
  rfl
theorem linesAtM_p {os : List Ofr} {i : Nat} {l : Ln} (h : l ∈ linesAtM os i) : l.p = (i : Int) := by
  unfold linesAtM at h
  split at h
  · obtain ⟨c, _, rfl⟩ := List.mem_map.mp h
    rfl
  · obtain ⟨c, _, rfl⟩ := List.mem_map.mp h
    rfl
  · cases h
theorem flat_one {α : Type} (X : List α) (p : Nat) : ∀ n : Nat, (List.range n).flatMap (fun i => if i = p then X else []) = if p < n then X else []
  | 0 => by simp
  | n + 1 => by
    rw [List.range_succ, List.flatMap_append, flat_one X p n, List.flatMap_singleton]
    by_cases h1 : p < n
    · rw [if_pos h1, if_neg (by omega), if_pos (by omega), List.append_nil]
    · rw [if_neg h1, List.nil_append]
      by_cases h2 : n = p
      · rw [if_pos h2, if_pos (by omega)]
      · rw [if_neg h2, if_neg (by omega)]
theorem lines_filter {os : List Ofr} {p : Nat} (h : p < os.length) : (linesM os).filter (fun l => decide (l.p = (p : Int))) = linesAtM os p := by
  unfold linesM
  rw [List.filter_flatMap]
  have e : ∀ i : Nat, (linesAtM os i).filter (fun l => decide (l.p = (p : Int))) = if i = p then linesAtM os p else [] := fun i => by
    by_cases z : i = p
    · rw [if_pos z, z, List.filter_eq_self]
      exact fun l hl => decide_eq_true (linesAtM_p hl)
    · rw [if_neg z, List.filter_eq_nil_iff]
      intro l hl
      have := linesAtM_p hl
      rw [decide_eq_true_eq]
      omega
  rw [show (fun i => (linesAtM os i).filter (fun l => decide (l.p = (p : Int)))) = fun i => if i = p then linesAtM os p else [] from funext e, flat_one, if_pos h]
/-! ### the tier of a count -/
def stepT (q : Int → Prop) [DecidablePred q] (ts : List (Int × Int)) (e : Int) : Int := ts.foldl (fun e t => if q t.1 then t.2 else e) e
theorem stepT_none {q : Int → Prop} [DecidablePred q] : ∀ {ts : List (Int × Int)} {e : Int}, (∀ t ∈ ts, ¬ q t.1) → stepT q ts e = e
  | [], _, _ => rfl
  | t :: r, e, h => by
    show stepT q r (if q t.1 then t.2 else e) = e
    rw [if_neg (h t List.mem_cons_self)]
    exact stepT_none fun t ht => h t (List.mem_cons_of_mem _ ht)
theorem stepT_split (c : Int) : ∀ (ts : List (Int × Int)) (e : Int), ts.Pairwise (fun a b => a.1 < b.1) → stepT (· = c) ts (stepT (· ≤ c - 1) ts e) = stepT (· ≤ c) ts e
  | [], _, _ => rfl
  | t :: r, e, h => by
    obtain ⟨h1, h2⟩ := List.pairwise_cons.mp h
    show stepT (· = c) r (if t.1 = c then t.2 else stepT (· ≤ c - 1) r (if t.1 ≤ c - 1 then t.2 else e)) = stepT (· ≤ c) r (if t.1 ≤ c then t.2 else e)
    by_cases z1 : t.1 ≤ c - 1
    · rw [if_pos z1, if_neg (by omega), if_pos (by omega)]
      exact stepT_split c r t.2 h2
    · rw [if_neg z1]
      by_cases z2 : t.1 = c
      · rw [if_pos z2, if_pos (by omega), stepT_none (q := (· = c)) fun x hx => by have := h1 x hx; omega, stepT_none (q := (· ≤ c)) fun x hx => by have := h1 x hx; omega]
      · rw [if_neg z2, if_neg (by omega)]
        exact stepT_split c r e h2
theorem pieceM_step (c : Int) : ∀ (ts : List (Int × Int)) (e : Int), (pieceL ts c).getLastD e = stepT (· ≤ c) ts e
  | [], _ => rfl
  | t :: r, e => by
    show _ = stepT (· ≤ c) r (if t.1 ≤ c then t.2 else e)
    rw [← pieceM_step c r]
    unfold pieceL
    by_cases z : t.1 ≤ c
    · rw [if_pos z, List.filter_cons_of_pos (p := fun t : Int × Int => decide (t.1 ≤ c)) (decide_eq_true z), List.map_cons, List.getLastD_cons]
    · rw [if_neg z, List.filter_cons_of_neg (by rw [decide_eq_true_eq]; exact z)]
theorem GoodT.pair {ts : List (Int × Int)} (h : GoodT ts) : ts.Pairwise (fun a b => a.1 < b.1) := by
  have step : ∀ (n i : Nat) (a b : Int × Int), ts[i]? = some a → ts[i + (n + 1)]? = some b → a.1 < b.1 := by
    intro n
    induction n with
    | zero => exact fun i a b ha hb => h.rise i a b ha hb
    | succ n ih =>
      intro i a b ha hb
      have hl := (List.getElem?_eq_some_iff.mp hb).1
      have g := List.getElem?_eq_getElem (show i + (n + 1) < ts.length by omega)
      have h1 := ih i a _ ha g
      have h2 := h.rise (i + (n + 1)) _ b g hb
      omega
  rw [List.pairwise_iff_getElem]
  intro i j hi hj hij
  have := step (j - i - 1) i ts[i] ts[j] (List.getElem?_eq_getElem hi) (by rw [show i + (j - i - 1 + 1) = j by omega]; exact List.getElem?_eq_getElem hj)
  exact this
theorem GoodT.ge1 {ts : List (Int × Int)} (h : GoodT ts) : ∀ t ∈ ts, 1 ≤ t.1 := fun t ht => by
  obtain ⟨i, hi, rfl⟩ := List.getElem_of_mem ht
  have e0 := h.one _ (List.getElem?_eq_getElem (show 0 < ts.length by omega))
  rcases Nat.eq_zero_or_pos i with z | z
  · subst z
    omega
  · have := List.pairwise_iff_getElem.mp h.pair 0 i (by omega) hi z
    omega
theorem pieceM_zero {ts : List (Int × Int)} (h : GoodT ts) : pieceM ts 0 = 0 := by
  unfold pieceM
  rw [pieceM_step]
  exact stepT_none fun t ht => by have := h.ge1 t ht; omega
theorem pieceM_succ {ts : List (Int × Int)} (h : GoodT ts) (c : Int) : stepT (· = c) ts (pieceM ts (c - 1)) = pieceM ts c := by
  unfold pieceM
  rw [pieceM_step, pieceM_step]
  exact stepT_split c ts 0 h.pair
theorem stepT_take {q : Int → Prop} [DecidablePred q] {ts : List (Int × Int)} {i : Nat} {t : Int × Int} {e : Int} (h : ts[i]? = some t) : stepT q (ts.take (i + 1)) e = if q t.1 then t.2 else stepT q (ts.take i) e := by
  unfold stepT
  rw [take_succ_at h, List.foldl_append]
  rfl
/-! ### shops made of offers -/
theorem ShopAt.of_al {H : Hp} {a : Addr} {vs : List Addr} {os : List Ofr} (h : H a = some (.lst (vs.map V.ref))) (al : Al (OfrAt H) vs os) : ShopAt H a os := by
  refine ⟨vs, h, al.len, fun i v o hv ho => ?_⟩
  obtain ⟨x, hx, r⟩ := al.get hv
  rw [ho] at hx
  cases Option.some.inj hx
  exact r
theorem TiersAt.of_al {H : Hp} {a : Addr} {us : List Addr} {ts : List (Int × Int)} (h : H a = some (.lst (us.map V.ref))) (al : Al (fun u (t : Int × Int) => H u = some (.tup [.int t.1, .int t.2])) us ts) : TiersAt H a ts := by
  refine ⟨us, h, al.len, fun i v o hv ho => ?_⟩
  obtain ⟨x, hx, r⟩ := al.get hv
  rw [ho] at hx
  cases Option.some.inj hx
  exact r
theorem ShopAt.al {H : Hp} {a : Addr} {os : List Ofr} (h : ShopAt H a os) : ∃ vs : List Addr, H a = some (.lst (vs.map V.ref)) ∧ Al (OfrAt H) vs os := by
  obtain ⟨vs, h1, h2, h3⟩ := h
  refine ⟨vs, h1, ?_⟩
  clear h1
  induction vs generalizing os with
  | nil =>
    cases os with
    | nil => exact True.intro
    | cons o r => simp at h2
  | cons v vr ih =>
    cases os with
    | nil => simp at h2
    | cons o r => exact ⟨h3 0 v o rfl rfl, ih (by simpa using h2) fun i v o hv ho => h3 (i + 1) v o hv ho⟩
theorem goodT_one (p : Int) : GoodT [(1, p)] := by
  refine ⟨by show 1 ≤ 1; decide, by show 1 ≤ 4; decide, fun t e => ?_, fun t ht => ?_, fun i a b ha hb => by simp at hb⟩
  · cases Option.some.inj e
    rfl
  · rw [List.mem_singleton.mp ht]
    show (1 : Int) ≤ 12
    decide
/-! ### _law_shop -/
abbrev s_law_shop : Stmt := topS 40
abbrev N_law_shop : List Str := ["_law_draws_here", "_law_many", "_law_most", "_law_shop_here", "_law_k", "_law_number", "_law_packs", "_law_content_here", "_law_place"]
theorem sc_law_shop : FnScope N_law_shop ["_law_draws_here", "_law_many", "_law_most"] (defScope s_law_shop) := ⟨rfl, rfl, rfl, by decide +kernel, rfl, by decide +kernel, by decide +kernel⟩

def isPack (os : List Ofr) (i : Nat) : Bool := match os[i]? with
  | some (.pack _ _) => true
  | _ => false
def packsN (os : List Ofr) (n : Nat) : List Int := ((List.range n).filter (isPack os)).map fun (i : Nat) => (i : Int)
theorem packsN_len (os : List Ofr) (n : Nat) : (packsN os n).length ≤ n := by
  unfold packsN
  rw [List.length_map]
  exact Nat.le_trans (List.length_filter_le _ _) (by rw [List.length_range]; exact Nat.le_refl _)
theorem packsN_yes {os : List Ofr} {n : Nat} (h : isPack os n = true) : packsN os (n + 1) = packsN os n ++ [(n : Int)] := by
  unfold packsN
  rw [List.range_succ, List.filter_append, List.map_append]
  simp [h]
theorem packsN_no {os : List Ofr} {n : Nat} (h : isPack os n = false) : packsN os (n + 1) = packsN os n := by
  unfold packsN
  rw [List.range_succ, List.filter_append, List.map_append]
  simp [h]
theorem packsN_mem {os : List Ofr} {n : Nat} {x : Int} (h : x ∈ packsN os n) : ∃ j : Nat, x = (j : Int) ∧ j < n ∧ ∃ c p, os[j]? = some (.pack c p) := by
  obtain ⟨j, hj, rfl⟩ := List.mem_map.mp h
  obtain ⟨h1, h2⟩ := List.mem_filter.mp hj
  refine ⟨j, rfl, List.mem_range.mp h1, ?_⟩
  unfold isPack at h2
  split at h2
  · exact ⟨_, _, by assumption⟩
  · cases h2
def sp_shop : Sp := fun vs H Q _ => ∃ (a : Addr) (ns : List Int) (m most : Nat), vs = [.ref a, .int m, .int most] ∧ H a = some (LI ns) ∧ 1 ≤ m ∧ m ≤ 4 ∧ most ≤ 8 ∧
  ∀ H' p os ns', SameBut a H H' → H p = none → ShopAt (cutH a H') p os → Good os → FitS m os → os.length ≤ most → H' a = some (LI ns') → Q (.ref p) H'
section
variable {P : Program} {w : World} {K : PySem.W.Frag} {mg : Str → Option Value} {base : Heap}
theorem ok_shop {f f1 f2 f3 f4 f5 f6 : Addr} {fd fd1 fd2 fd3 fd4 fd5 fd6 : FuncData} {k : Nat} (M : Names mg) (D : Def K mg "_law_shop" s_law_shop ["_law_draws_here", "_law_many", "_law_most"] f fd) (D_law_content : Def K mg "_law_content" s_law_content ["_law_draws_here", "_law_many"] f1 fd1) (D_law_price : Def K mg "_law_price" s_law_price ["_law_draws_here"] f2 fd2) (D_law_tiers : Def K mg "_law_tiers" s_law_tiers ["_law_draws_here"] f3 fd3)
    (D_law_want : Def K mg "_law_want" s_law_want ["_law_draws_here", "_law_many"] f4 fd4) (D_law_pop : Def K mg "_law_pop" s_law_pop ["_law_draws_here"] f5 fd5) (D_law_cases : Def K mg "_law_cases" s_law_cases ["_law_want_here"] f6 fd6) :
    FnOk P w K mg base CX0 (k + 4) f fd ["_law_draws_here", "_law_many", "_law_most"] sp_shop := by
  have G_law_content : FnOk P w K mg base CX0 (k + 3) f1 fd1 ["_law_draws_here", "_law_many"] sp_content := ok_content M D_law_content D_law_want D_law_pop D_law_cases
  have G_law_price : FnOk P w K mg base CX0 (k + 3) f2 fd2 ["_law_draws_here"] sp_price := ok_price D_law_price D_law_pop
  have G_law_tiers : FnOk P w K mg base CX0 (k + 3) f3 fd3 ["_law_draws_here"] sp_tiers := ok_tiers M D_law_tiers D_law_price D_law_pop
  have G_law_pop : FnOk P w K mg base CX0 (k + 3) f5 fd5 ["_law_draws_here"] sp_pop := ok_pop D_law_pop
  refine D.F.ok sc_law_shop (fun vs H Q E h => ?_) (fun cdv A outer s H vs Q E hr h => ?_)
  · obtain ⟨a, ns, m, most, rfl, _⟩ := h
    rfl
  · obtain ⟨a, ns, m, most, rfl, ha, hm1, hm4, hmost, q⟩ := h
    refine ⟨_, (pss_cons (ps_set (i := 3) sc_law_shop.nd rfl (Or.inr rfl) (pe_lst pa_nil))
  (pss_cons (ps_for PassesOwn.never rfl (pi_range1 (by rfl) M.range (pa_cons (pe_op op_mod (pe_call G_law_pop hr (by rfl) D_law_pop.g D_law_pop.F.kp D_law_pop.b .nil pass0 (pa_cons (pv 0) pa_nil)) (pe_op op_add (pv 2) pe_int)) pa_nil)) (pg_name (i := 4) sc_law_shop.nd rfl (Or.inl rfl))
   (pss_cons (ps_set (i := 5) sc_law_shop.nd rfl (Or.inl rfl) (pe_call G_law_pop hr (by rfl) D_law_pop.g D_law_pop.F.kp D_law_pop.b .nil pass0 (pa_cons (pv 0) pa_nil)))
  (pss_cons (ps_setLc (i := 6) (own := [("_law_place", 8)]) (by rfl) sc_law_shop.nd rfl rfl (sw_true rfl rfl rfl (by decide +kernel)) (pi_range1 (by rfl) M.range (pa_cons (pe_callB call_len_seq (by rfl) M.len (by decide +kernel) (pa_cons (pv 3) pa_nil)) pa_nil)) (blkOk_by (own := [("_law_place", 8)]) (N := N_law_shop) (sc := defScope s_law_shop) (by decide +kernel)) (fun _ _ _ _ _ => (pg_name (i := 8) sc_law_shop.nd rfl (Or.inl rfl))) (fun _ _ _ _ _ => (pts_one (pt_cmpR op_eq (pe_ix (ix_tupK (K := K) rfl) (pe_ix (ix_listK (K := K) rfl) (pv 3) (pv 8) (fun _ _ => rfl)) pe_int (fun _ _ => rfl)) pe_str (nomark _)))) (fun _ _ _ _ _ => (pv 8)))
  (pss_cons (ps_set (i := 7) sc_law_shop.nd rfl (Or.inl rfl) (pe_call G_law_content hr (by rfl) D_law_content.g D_law_content.F.kp D_law_content.b .nil pass0 (pa_cons (pv 0) (pa_cons (pv 1) pa_nil))))
  (pss_one (ps_if (PW.pt (pw_and (pt_cmpR op_gt (pe_op op_mod (pv 5) pe_int) pe_int (nomark _)) (pw_and1 (pt_cmpR (op_neD hr.units) (pv 6) (pe_lst pa_nil) (nomark _)))))
   (pss_one (ps_expr (pe_bm PySem.F.plainAttrs_list PySem.F.slot_list_append PySem.F.type_list_append mt_append (pv 3) (pa_cons (pe_tup (pa_cons pe_str (pa_cons (pv 7) (pa_cons (pe_call G_law_price hr (by rfl) D_law_price.g D_law_price.F.kp D_law_price.b .nil pass0 (pa_cons (pv 0) pa_nil)) (pa_cons (pe_ix ix_list (pv 6) (pe_op op_mod (pe_op op_fdiv (pv 5) pe_int) (pe_callB call_len_seq (by rfl) M.len (by decide +kernel) (pa_cons (pv 6) pa_nil))) (fun _ _ => rfl)) pa_nil))))) pa_nil))))
   (pss_one (ps_if (pt_cmpR op_gt (pe_op op_mod (pv 5) pe_int) pe_int (nomark _))
   (pss_one (ps_expr (pe_bm PySem.F.plainAttrs_list PySem.F.slot_list_append PySem.F.type_list_append mt_append (pv 3) (pa_cons (pe_tup (pa_cons pe_str (pa_cons (pv 7) (pa_cons (pe_call G_law_tiers hr (by rfl) D_law_tiers.g D_law_tiers.F.kp D_law_tiers.b .nil pass0 (pa_cons (pv 0) pa_nil)) pa_nil)))) pa_nil))))
   (pss_one (ps_expr (pe_bm PySem.F.plainAttrs_list PySem.F.slot_list_append PySem.F.type_list_append mt_append (pv 3) (pa_cons (pe_tup (pa_cons pe_str (pa_cons (pv 7) (pa_cons (pe_call G_law_price hr (by rfl) D_law_price.g D_law_price.F.kp D_law_price.b .nil pass0 (pa_cons (pv 0) pa_nil)) pa_nil)))) pa_nil))))))))))))
  (pss_one (ps_ret (pv 3))))), ?_⟩
    refine ⟨Nat.zero_le _, fun S nS => ?_⟩
    have nSa : S ≠ a := (ne_of_none ha nS).symm
    have ha0 : upd H S (.lst []) a = some (LI ns) := by rw [upd_ne nSa.symm]; exact ha
    refine ⟨_, rfl, a, ns, rfl, ha0, fun H1 s1 ha1 => ?_⟩
    have s1' : SameBut a H H1 := (SameBut.of (same_upd nS)).trans s1
    have hS1 : H1 S = some (.lst []) := s1 _ _ nSa upd_same
    obtain ⟨cnt, hcnt, ecnt⟩ := mod_at (i := ns.headD 0) (n := most + 1) (by omega)
    refine ⟨_, rfl, _, _, rfl, rfl, _, _, rfl, rfl, (by show (0 : Int) < (most : Int) + 1; omega), ?_⟩
    refine ⟨(cnt : Int), (by show [V.int (ns.headD 0 % ((most : Int) + 1))] = [V.int (cnt : Int)]; rw [show ns.headD 0 % ((most : Int) + 1) = (cnt : Int) from ecnt]), by omega, by omega, for_range (n := (cnt : Int).toNat) (fun i σ H' => ∃ y4 y5 y6 y7, σ = [some (.ref a), some (.int m), some (.int most), some (.ref S), y4, y5, y6, y7, none] ∧ SameBut a H H' ∧ (∃ ds, H' a = some (LI ds)) ∧ ∃ (vs : List Addr) (os : List Ofr), H' S = some (.lst (vs.map V.ref)) ∧ Al (OfrAt (cutH S (cutH a H'))) vs os ∧ Good os ∧ FitS m os ∧ os.length ≤ i) ⟨none, none, none, none, rfl, s1', ⟨_, ha1⟩, [], [], hS1, True.intro, ⟨by decide, fun i o ho => by simp at ho⟩, fun o ho => by simp at ho, Nat.le_refl _⟩ (fun i σ H2 hi hp => ?_) (fun σ H2 hp => ?_)⟩
    · obtain ⟨y4, y5, y6, y7, rfl, s2, ⟨ds, ha2⟩, vs, os, hS2, al, gd, ft, hlen⟩ := hp
      have hi2 : i < cnt := by omega
      have lal := al.len
      refine ⟨_, rfl, a, ds, rfl, ha2, fun H3 s3 ha3 => ?_⟩
      generalize ds.headD 0 = n
      have s23 := s2.trans s3
      have hS3 := s3 _ _ nSa hS2
      have al3 : Al (OfrAt (cutH S (cutH a H3))) vs os := al.imp fun v o h => h.same (cut_mono (cut_same s3))
      have sh3 : ShopAt H3 S os := ShopAt.of_al hS3 (al3.imp fun v o h => (h.same cut_le).same cut_le)
      obtain ⟨vs3, k1, k2, k3⟩ := id sh3
      -- packs
      refine ⟨_, rfl, S, _, rfl, .inl (SqL.of k1), _, rfl, by rw [List.length_map]; omega, by rw [List.length_map]; omega, fun B nB => lc_range (lo := 0) (n := ((vs3.map V.ref).length : Int).toNat) (fun j H' => Same H3 H' ∧ H' B = some (LI (packsN os j))) ⟨same_upd nB, upd_same⟩ (fun j H4 hj hI => ?_) (fun H4 hI => ?_)⟩
      · obtain ⟨s4, hB⟩ := hI
        have hj2 : j < os.length := by rw [Int.toNat_natCast, List.length_map] at hj; omega
        obtain ⟨v, o, g1, g2, g3⟩ := ShopAt.get (H := H3) (a := S) k2 hj2
        obtain ⟨b, r, hv, _⟩ := (k3 j v o g1 g2).head
        have nlen := packsN_len os j
        refine ⟨rfl, _, rfl, _, rfl, S, _, _, _, rfl, rfl, SqL.of (s4 _ _ k1), at_of (Int.zero_add _) g3, v, _, _, _, rfl, rfl, SqT.of (s4 _ _ hv), atI_nat (j := 0) rfl, rfl, ?_⟩
        cases o with
        | pack c pr =>
          have hn : isPack os j = true := by unfold isPack; rw [g2]
          refine ⟨true, rfl, _, rfl, _, hB, szL' (by rw [List.length_map]; omega), sm_new s4 nB, ?_⟩
          rw [packsN_yes hn, show (0 : Int) + (j : Nat) = (j : Int) from Int.zero_add _]
          exact at_app
        | many c ts =>
          have hn : isPack os j = false := by unfold isPack; rw [g2]
          exact ⟨false, rfl, s4, by rw [packsN_no hn]; exact hB⟩
        | add c pr kk =>
          have hn : isPack os j = false := by unfold isPack; rw [g2]
          exact ⟨false, rfl, s4, by rw [packsN_no hn]; exact hB⟩
      · obtain ⟨s4, hB⟩ := hI
        rw [Int.toNat_natCast, List.length_map, k2] at hB
        have ha4 := s4 _ _ ha3
        have hS4 := s4 _ _ hS3
        have nBa : B ≠ a := (ne_of_none ha3 nB).symm
        have s24 : SameBut a H H4 := s23.trans (.of s4)
        have al4 : Al (OfrAt (cutH S (cutH a H4))) vs os := al3.imp fun v o h => h.same (cut_mono (cut_mono s4))
        -- content
        refine ⟨_, rfl, _, rfl, a, _, m, rfl, ha4, hm1, hm4, fun H5 c ws ns5 s5 nc nca hc ha5 hl sm => ?_⟩
        have s25 := s24.trans s5
        have hS5 := s5 _ _ nSa hS4
        have hB5 := s5 _ _ nBa hB
        have ncS : c ≠ S := fun z => by rw [z, hS4] at nc; cases nc
        have al5 : Al (OfrAt (cutH S (cutH a H5))) vs os := al4.imp fun v o h => h.same (cut_mono (cut_same s5))
        have fin : ∀ (H6 : Hp) (v : Addr) (o : Ofr) (tup : List V) (ns6 : List Int), SameBut a H5 H6 → H6 v = none → H6 a = some (LI ns6) → (OfrAt (cutH S (cutH a (upd H6 v (.tup tup)))) v o) → GoodO os os.length o → FitO m o → upd H6 v (.tup tup) S = some (.lst (vs.map V.ref)) ∧ (vs.map V.ref).length < sizeLine ∧ (∃ y4 y5 y6 y7, [some (V.ref a), some (.int m), some (.int most), some (.ref S), some (.int (0 + (i : Nat))), some (.int n), some (.ref B), some (.ref c), none] = [some (.ref a), some (.int m), some (.int most), some (.ref S), y4, y5, y6, y7, none] ∧ SameBut a H (upd (upd H6 v (.tup tup)) S (.lst (vs.map V.ref ++ [.ref v]))) ∧ (∃ ds, upd (upd H6 v (.tup tup)) S (.lst (vs.map V.ref ++ [.ref v])) a = some (LI ds)) ∧ ∃ (vs' : List Addr) (os' : List Ofr), upd (upd H6 v (.tup tup)) S (.lst (vs.map V.ref ++ [.ref v])) S = some (.lst (vs'.map V.ref)) ∧ Al (OfrAt (cutH S (cutH a (upd (upd H6 v (.tup tup)) S (.lst (vs.map V.ref ++ [.ref v])))))) vs' os' ∧ Good os' ∧ FitS m os' ∧ os'.length ≤ i + 1) := by
          intro H6 v o tup ns6 s6 nv ha6 ho go fo
          have nva : v ≠ a := (ne_of_none ha6 nv).symm
          have hS6 := s6 _ _ nSa hS5
          have hS7 := (same_upd (o := .tup tup) nv) _ _ hS6
          refine ⟨hS7, szL' (by rw [List.length_map]; omega), _, _, _, _, rfl, ?_, ⟨ns6, ?_⟩, vs ++ [v], os ++ [o], ?_, ?_, gd.push (by omega) go, ft.push fo, by rw [List.length_append, List.length_singleton]; omega⟩
          · exact ((s25.trans s6).trans (.of (same_upd nv))).new nS
          · rw [upd_ne nSa.symm, upd_ne nva.symm]
            exact ha6
          · rw [upd_same, List.map_append]
            rfl
          · rw [cut_upd nSa, cut_off]
            refine Al.app (al5.imp fun x y h => h.same (cut_mono (cut_same (s6.trans (.of (same_upd nv)))))) (.one ho)
        have finM := fun (H6 H7 : Hp) (v tt : Addr) (ts : List (Int × Int)) (ns7 : List Int) (s6 : SameBut a H5 H6) (s7 : SameBut a H6 H7) (nt : H6 tt = none) (hts : TiersAt (cutH a H7) tt ts) (gts : GoodT ts) (prt : PriceT ts) (ha7 : H7 a = some (LI ns7)) (nv : H7 v = none) => by
          have hS6 := s6 _ _ nSa hS5
          have hS7 := s7 _ _ nSa hS6
          have nva : v ≠ a := (ne_of_none ha7 nv).symm
          have nvS : v ≠ S := (ne_of_none hS7 nv).symm
          have ntS : tt ≠ S := fun z => by rw [z, hS6] at nt; cases nt
          have hc7 := s7 _ _ nca (s6 _ _ nca hc)
          have hts' : TiersAt (cutH S (cutH a (upd H7 v (.tup [.str "many", .ref c, .ref tt])))) tt ts := (hts.cut ntS (cut_put nSa hS7)).same (cut_mono (cut_mono (same_upd nv)))
          exact fin H7 v (.many ws ts) [.str "many", .ref c, .ref tt] ns7 (s6.trans s7) nv ha7 ⟨c, tt, cut_put nvS (cut_put nva upd_same), cut_put ncS (cut_put nca ((same_upd nv) _ _ hc7)), hts'⟩ gts ⟨hl, sm, prt⟩
        have finP := fun (H6 H7 : Hp) (v : Addr) (ns7 : List Int) (p : Int) (s6 : SameBut a H5 H6) (s7 : SameBut a H6 H7) (ha7 : H7 a = some (LI ns7)) (p0 : 0 ≤ p) (p1 : p < 1000000000000) (nv : H7 v = none) => by
          have hS7 := s7 _ _ nSa (s6 _ _ nSa hS5)
          have nva : v ≠ a := (ne_of_none ha7 nv).symm
          have nvS : v ≠ S := (ne_of_none hS7 nv).symm
          have hc7 := s7 _ _ nca (s6 _ _ nca hc)
          exact fin H7 v (.pack ws p) [.str "pack", .ref c, .int p] ns7 (s6.trans s7) nv ha7 ⟨c, cut_put nvS (cut_put nva upd_same), cut_put ncS (cut_put nca ((same_upd nv) _ _ hc7))⟩ True.intro ⟨hl, sm, p0, p1⟩
        refine ⟨_, rfl, _, _, rfl, rfl, (by show (0 : Int) < _; decide), _, _, rfl, rfl, _, rfl, ite2 (fun _ => ?_) (fun _ => ?_)⟩
        · refine ⟨_, rfl, Nat.zero_le _, fun e ne => ?_⟩
          have se := same_upd (o := .lst []) ne
          have hB6 := se _ _ hB5
          have ha6 := se _ _ ha5
          have hS6 := se _ _ hS5
          have he : upd H5 e (.lst []) e = some (.lst []) := upd_same
          generalize upd H5 e (.lst []) = H6 at se hB6 ha6 hS6 he ⊢
          refine ⟨_, _, dp_ints (SqL.of hB6), dp_ints (ns := []) (SqL.of he), shaped_ints _, shaped_ints _, _, rfl, ite2 (fun z => ?_) (fun z => ?_)⟩
          · have pne : 0 < (packsN os os.length).length := by
              rcases Nat.eq_zero_or_pos (packsN os os.length).length with y | y
              · rw [eqv_ints, List.eq_nil_of_length_eq_zero y, decide_eq_true rfl] at z
                cases z
              · exact y
            obtain ⟨j, hj, ej⟩ := mod_at (i := n / 8) (n := ((packsN os os.length).map V.int).length) (by rw [List.length_map]; exact pne)
            rw [List.length_map] at hj
            refine ⟨_, rfl, .inl ⟨rfl, _, SqL.of hS6⟩, _, rfl, _, rfl, a, _, rfl, ha6, fun H7 ns7 p s7 ha7 p0 p1 => ?_⟩
            have hB7 := s7 _ _ nBa hB6
            refine ⟨_, rfl, _, rfl, _, _, rfl, rfl, ⟨by decide, by decide⟩, _, rfl, B, _, rfl, .inl (SqL.of hB7), _, _, rfl, rfl, (by rw [List.length_map]; omega), B, _, _, _, rfl, rfl, SqL.of hB7, at_of ej (getD_ints hj), by show 4 ≤ sizeLine; decide, fun v nv => ?_⟩
            obtain ⟨jj, ejj, hjj, cc, pp, hpk⟩ := packsN_mem (List.getElem_mem hj)
            have nva : v ≠ a := (ne_of_none ha7 nv).symm
            have hS7 := s7 _ _ nSa hS6
            have nvS : v ≠ S := (ne_of_none hS7 nv).symm
            have hc7 := s7 _ _ nca (se _ _ hc)
            exact ⟨S, _, _, rfl, rfl, fin H7 v (.add ws p ((packsN os os.length)[j])) _ ns7 ((SameBut.of se).trans s7) nv ha7 ⟨c, cut_put nvS (cut_put nva upd_same), cut_put ncS (cut_put nca ((same_upd nv) _ _ hc7))⟩ ⟨jj, ejj, hjj, cc, pp, hpk⟩ ⟨hl, sm, p0, p1⟩⟩
          · refine ⟨_, rfl, _, _, rfl, rfl, (by show (0 : Int) < _; decide), _, _, rfl, rfl, _, rfl, ite2 (fun _ => ?_) (fun _ => ?_)⟩
            · refine ⟨_, rfl, .inl ⟨rfl, _, SqL.of hS6⟩, _, rfl, _, rfl, a, _, rfl, ha6, fun H7 tt ts ns7 s7 nt hts gts prt ha7 => ⟨by show 3 ≤ sizeLine; decide, fun v nv => ?_⟩⟩
              exact ⟨S, _, _, rfl, rfl, finM H6 H7 v tt ts ns7 (.of se) s7 nt hts gts prt ha7 nv⟩
            · refine ⟨_, rfl, .inl ⟨rfl, _, SqL.of hS6⟩, _, rfl, _, rfl, a, _, rfl, ha6, fun H7 ns7 p s7 ha7 p0 p1 => ⟨by show 3 ≤ sizeLine; decide, fun v nv => ?_⟩⟩
              exact ⟨S, _, _, rfl, rfl, finP H6 H7 v ns7 p (.of se) s7 ha7 p0 p1 nv⟩
        · refine ⟨_, rfl, _, _, rfl, rfl, (by show (0 : Int) < _; decide), _, _, rfl, rfl, _, rfl, ite2 (fun _ => ?_) (fun _ => ?_)⟩
          · refine ⟨_, rfl, .inl ⟨rfl, _, SqL.of hS5⟩, _, rfl, _, rfl, a, _, rfl, ha5, fun H7 tt ts ns7 s7 nt hts gts prt ha7 => ⟨by show 3 ≤ sizeLine; decide, fun v nv => ?_⟩⟩
            exact ⟨S, _, _, rfl, rfl, finM H5 H7 v tt ts ns7 (.refl _ _) s7 nt hts gts prt ha7 nv⟩
          · refine ⟨_, rfl, .inl ⟨rfl, _, SqL.of hS5⟩, _, rfl, _, rfl, a, _, rfl, ha5, fun H7 ns7 p s7 ha7 p0 p1 => ⟨by show 3 ≤ sizeLine; decide, fun v nv => ?_⟩⟩
            exact ⟨S, _, _, rfl, rfl, finP H5 H7 v ns7 p (.refl _ _) s7 ha7 p0 p1 nv⟩
    · obtain ⟨y4, y5, y6, y7, rfl, s2, ⟨ds, ha2⟩, vs, os, hS2, al, gd, ft, hlen⟩ := hp
      refine ⟨_, rfl, q H2 S os ds s2 nS (ShopAt.of_al (cut_put nSa hS2) (al.imp fun v o h => h.same cut_le)) gd ft (by omega) ha2⟩
end
/-! ### shops as data -/
def dTier (t : Int × Int) : PyData := .tuple [.int t.1, .int t.2]
def dOfr : Ofr → PyData
  | .pack c p => .tuple [.str "pack", dInts c, .int p]
  | .many c ts => .tuple [.str "many", dInts c, .list (ts.map dTier)]
  | .add c p k => .tuple [.str "add", dInts c, .int p, .int k]
abbrev dShop (os : List Ofr) : PyData := .list (os.map dOfr)
theorem dp_tiers {K : PySem.W.Frag} {H : Hp} : ∀ {us : List Addr} {ts : List (Int × Int)}, us.length = ts.length → (∀ (i : Nat) u (t : Int × Int), us[i]? = some u → ts[i]? = some t → H u = some (.tup [.int t.1, .int t.2])) → DpAll K H (us.map V.ref) (ts.map dTier)
  | [], [], _, _ => .nil
  | [], _ :: _, h, _ => by simp at h
  | _ :: _, [], h, _ => by simp at h
  | u :: us, t :: ts, hl, h => .cons (.tup (SqT.of (h 0 u t rfl rfl)) (.cons (.int _) (.cons (.int _) .nil))) (dp_tiers (by simpa using hl) fun i u' t' a b => h (i + 1) u' t' a b)
theorem TiersAt.dp {K : PySem.W.Frag} {H : Hp} {a : Addr} {ts : List (Int × Int)} (h : TiersAt H a ts) : Dp K H (.ref a) (.list (ts.map dTier)) := by
  obtain ⟨us, h1, h2, h3⟩ := h
  exact .lst (SqL.of h1) (dp_tiers h2 h3)
theorem OfrAt.dp {K : PySem.W.Frag} {H : Hp} {a : Addr} : ∀ {o : Ofr}, OfrAt H a o → Dp K H (.ref a) (dOfr o)
  | .pack c p, ⟨b, h1, h2⟩ => .tup (SqT.of h1) (.cons (.str _) (.cons (dp_ints (SqL.of h2)) (.cons (.int _) .nil)))
  | .many c ts, ⟨b, t, h1, h2, h3⟩ => .tup (SqT.of h1) (.cons (.str _) (.cons (dp_ints (SqL.of h2)) (.cons h3.dp .nil)))
  | .add c p k, ⟨b, h1, h2⟩ => .tup (SqT.of h1) (.cons (.str _) (.cons (dp_ints (SqL.of h2)) (.cons (.int _) (.cons (.int _) .nil))))
theorem dp_ofrs {K : PySem.W.Frag} {H : Hp} : ∀ {vs : List Addr} {os : List Ofr}, Al (OfrAt H) vs os → DpAll K H (vs.map V.ref) (os.map dOfr)
  | [], [], _ => .nil
  | [], _ :: _, h => h.elim
  | _ :: _, [], h => h.elim
  | _ :: _, _ :: _, h => .cons h.1.dp (dp_ofrs h.2)
theorem ShopAt.dp {K : PySem.W.Frag} {H : Hp} {a : Addr} {os : List Ofr} (h : ShopAt H a os) : Dp K H (.ref a) (dShop os) := by
  obtain ⟨vs, h1, al⟩ := h.al
  exact .lst (SqL.of h1) (dp_ofrs al)
theorem lay_tiers : ∀ ts : List (Int × Int), PyData.canLayAll0 (ts.map dTier) = true
  | [] => by simp [PyData.canLayAll0]
  | t :: r => by
    have ih := lay_tiers r
    simp [PyData.canLayAll0, PyData.canLay0, dTier, ih]
theorem depth_tiers : ∀ ts : List (Int × Int), PyData.depthAll (ts.map dTier) ≤ 1
  | [] => by simp [PyData.depthAll]
  | t :: r => by
    have ih := depth_tiers r
    simp only [List.map_cons, PyData.depthAll, PyData.depth, dTier]
    omega
theorem lay_ofr (o : Ofr) : PyData.canLay0 (dOfr o) = true := by
  cases o with
  | pack c p =>
    have := lay_ints c
    simp [dOfr, PyData.canLayAll0, PyData.canLay0, this]
    decide +kernel
  | many c ts =>
    have := lay_ints c
    have h2 := lay_tiers ts
    simp [dOfr, PyData.canLayAll0, PyData.canLay0, this, h2]
    decide +kernel
  | add c p k =>
    have := lay_ints c
    simp [dOfr, PyData.canLayAll0, PyData.canLay0, this]
    decide +kernel
theorem depth_ofr (o : Ofr) : PyData.depth (dOfr o) ≤ 4 := by
  cases o with
  | pack c p =>
    have := depth_ints c
    simp only [dOfr, PyData.depth, PyData.depthAll, this]
    omega
  | many c ts =>
    have := depth_ints c
    have h2 := depth_tiers ts
    simp only [dOfr, PyData.depth, PyData.depthAll, this]
    omega
  | add c p k =>
    have := depth_ints c
    simp only [dOfr, PyData.depth, PyData.depthAll, this]
    omega
theorem lay_ofrs : ∀ os : List Ofr, PyData.canLayAll0 (os.map dOfr) = true
  | [] => by simp [PyData.canLayAll0]
  | o :: r => by
    have ih := lay_ofrs r
    have h1 := lay_ofr o
    simp [PyData.canLayAll0, ih, h1]
theorem depth_ofrs : ∀ os : List Ofr, PyData.depthAll (os.map dOfr) ≤ 4
  | [] => by simp [PyData.depthAll]
  | o :: r => by
    have ih := depth_ofrs r
    have h1 := depth_ofr o
    simp only [List.map_cons, PyData.depthAll]
    omega
theorem shaped_shop (os : List Ofr) : SeqAt.shaped (dShop os) = true := by
  unfold SeqAt.shaped
  have h1 : PyData.canLay0 (dShop os) = true := by
    simp only [PyData.canLay0]
    exact lay_ofrs os
  have h2 : PyData.depth (dShop os) ≤ 64 := by
    have := depth_ofrs os
    simp only [PyData.depth]
    omega
  rw [h1, decide_eq_true h2]
  rfl
/-! ### _law_copied -/
abbrev s_law_copied : Stmt := topS 41
abbrev N_law_copied : List Str := ["_law_shop_here", "_law_found", "_law_offer"]
theorem sc_law_copied : FnScope N_law_copied ["_law_shop_here"] (defScope s_law_copied) := ⟨rfl, rfl, rfl, by decide +kernel, rfl, by decide +kernel, by decide +kernel⟩

def sp_copied : Sp := fun vs H Q _ => ∃ (a : Addr) (os : List Ofr), vs = [.ref a] ∧ ShopAt H a os ∧ os.length ≤ 100 ∧ ∀ H' q, Same H H' → H q = none → (∀ d xs, H d = some (.lst xs) → ShopAt (cutH d H') q os) → ShopAt H' q os → Q (.ref q) H'
theorem cut2 (l : List V) : cutV l (some 2) none = l.drop 2 := by
  have a : HT.sIx l.length 0 (some ((2 : Nat) : Int)) = min 2 l.length := HT.sIx_nat _ _ _
  show (l.drop (HT.sIx l.length 0 (some ((2 : Nat) : Int)))).take (l.length - HT.sIx l.length 0 (some ((2 : Nat) : Int))) = l.drop 2
  rw [a]
  by_cases z : l.length ≤ 2
  · rw [Nat.min_eq_right z, List.drop_eq_nil_of_le (Nat.le_refl _), List.drop_eq_nil_of_le z, List.take_nil]
  · rw [Nat.min_eq_left (by omega)]
    exact List.take_of_length_le (by rw [List.length_drop]; exact Nat.le_refl _)
theorem no0 (n : Nat) : ¬ (HT.sIx (n + 1) 0 (some 2) = 0 ∧ HT.sIx (n + 1) (n + 1) none = n + 1) := fun z => by
  have a : HT.sIx (n + 1) 0 (some ((2 : Nat) : Int)) = min 2 (n + 1) := HT.sIx_nat _ _ _
  have b : min 2 (n + 1) = 0 := a.symm.trans z.1
  omega
section
variable {P : Program} {w : World} {K : PySem.W.Frag} {mg : Str → Option Value} {base : Heap}
theorem ok_copied {f : Addr} {fd : FuncData} {k : Nat} (M : Names mg) (D : Def K mg "_law_copied" s_law_copied ["_law_shop_here"] f fd) : FnOk P w K mg base CX0 (k + 1) f fd ["_law_shop_here"] sp_copied := by
  refine D.F.ok sc_law_copied (fun vs H Q E h => ?_) (fun cdv A outer s H vs Q E hr h => ?_)
  · obtain ⟨a, os, rfl, _⟩ := h
    rfl
  · obtain ⟨a, os, rfl, hS, h100, q⟩ := h
    obtain ⟨vs, h1, h2, h3⟩ := id hS
    refine ⟨_, (pss_cons (ps_set (i := 1) sc_law_copied.nd rfl (Or.inl rfl) (pe_lst pa_nil))
  (pss_cons (ps_for PassesOwn.never rfl (pi_list (pv 0)) (pg_name (i := 2) sc_law_copied.nd rfl (Or.inl rfl))
   (pss_one (ps_if (pt_cmpR op_eq (pe_ix ix_tup (pv 2) pe_int (fun _ _ => rfl)) pe_str (nomark _))
   (pss_one (ps_expr (pe_bm PySem.F.plainAttrs_list PySem.F.slot_list_append PySem.F.type_list_append mt_append (pv 1) (pa_cons (pe_tup (pa_cons pe_str (pa_cons (pe_callTy call_list_of (by rfl) M.list (by decide +kernel) (pa_cons (pe_ix ix_tup (pv 2) pe_int (fun _ _ => rfl)) pa_nil)) (pa_cons (pe_callTy call_list_of (by rfl) M.list (by decide +kernel) (pa_cons (pe_ix ix_tup (pv 2) pe_int (fun _ _ => rfl)) pa_nil)) pa_nil)))) pa_nil))))
   (pss_one (ps_expr (pe_bm PySem.F.plainAttrs_list PySem.F.slot_list_append PySem.F.type_list_append mt_append (pv 1) (pa_cons (pe_op op_catT (pe_tup (pa_cons (pe_ix ix_tup (pv 2) pe_int (fun _ _ => rfl)) (pa_cons (pe_callTy call_list_of (by rfl) M.list (by decide +kernel) (pa_cons (pe_ix ix_tup (pv 2) pe_int (fun _ _ => rfl)) pa_nil)) pa_nil))) (pe_slice sl_tup (pv 2) (po_some pe_int) po_none)) pa_nil)))))))
  (pss_one (ps_ret (pv 1))))), ?_⟩
    refine ⟨Nat.zero_le _, fun F nF => ?_⟩
    have s0 := same_upd (o := .lst []) nF
    refine ⟨_, rfl, a, rfl, ⟨_, SqL.of (s0 _ _ h1)⟩, for_list (K := K) (a := a) (xs := vs.map V.ref) (fun i σ H' => ∃ y2, σ = [some (.ref a), some (.ref F), y2] ∧ Same H H' ∧ ∃ ws : List Addr, H' F = some (.lst (ws.map V.ref)) ∧ ∀ d, (d = F ∨ ∃ xs, H d = some (.lst xs)) → Al (OfrAt (cutH d (cutH F H'))) ws (os.take i)) ⟨none, rfl, s0, [], upd_same, fun _ _ => True.intro⟩ (fun i σ H' _ hp => ?_) (fun i x σ H2 hx hp => ?_) (fun σ H2 hp => ?_)⟩
    · obtain ⟨_, _, s2, _⟩ := hp
      exact SqL.of (s2 _ _ h1)
    · obtain ⟨y2, rfl, s2, ws, hF, al⟩ := hp
      have hi : i < os.length := by
        have := (List.getElem?_eq_some_iff.mp hx).1
        rw [List.length_map] at this
        omega
      obtain ⟨v, o, g1, g2, g3⟩ := ShopAt.get (H := H) (a := a) h2 hi
      have ex : x = .ref v := Option.some.inj (hx.symm.trans g3)
      subst ex
      have ho := (h3 i v o g1 g2).same s2
      have lal := (al F (.inl rfl)).len
      have dd : ∀ d, (d = F ∨ ∃ xs, H d = some (.lst xs)) → ∃ xs, H2 d = some (.lst xs) := fun d hd => by
        rcases hd with rfl | ⟨xs, hd⟩
        · exact ⟨_, hF⟩
        · exact ⟨xs, s2 _ _ hd⟩
      have nfr : ∀ (H3 : Hp) x, Same H2 H3 → H3 x = none → ∀ d, (d = F ∨ ∃ xs, H d = some (.lst xs)) → x ≠ d := fun H3 x s3 nx d hd z => by
        obtain ⟨xs, e⟩ := dd d hd
        rw [z, s3 _ _ e] at nx
        cases nx
      rw [List.length_take] at lal
      have fin : ∀ (H3 : Hp) (u : Addr), Same H2 H3 → (∀ d, (d = F ∨ ∃ xs, H d = some (.lst xs)) → OfrAt (cutH d (cutH F H3)) u o) → H3 F = some (.lst (ws.map V.ref)) ∧ (ws.map V.ref).length < sizeLine ∧ ∃ y2, [some (V.ref a), some (.ref F), some (.ref v)] = [some (.ref a), some (.ref F), y2] ∧ Same H (upd H3 F (.lst (ws.map V.ref ++ [.ref u]))) ∧ ∃ ws' : List Addr, upd H3 F (.lst (ws.map V.ref ++ [.ref u])) F = some (.lst (ws'.map V.ref)) ∧ ∀ d, (d = F ∨ ∃ xs, H d = some (.lst xs)) → Al (OfrAt (cutH d (cutH F (upd H3 F (.lst (ws.map V.ref ++ [.ref u])))))) ws' (os.take (i + 1)) := by
        intro H3 u s3 hu
        refine ⟨s3 _ _ hF, szL' (by rw [List.length_map]; omega), _, rfl, sm_new (s2.trans s3) nF, ws ++ [u], ?_, fun d hd => ?_⟩
        · rw [upd_same, List.map_append]
          rfl
        · rw [cut_off, take_succ_at g2]
          exact Al.app ((al d hd).imp fun l x h => h.same (cut_mono (cut_mono s3))) (.one (hu d hd))
      cases o with
      | many c ts =>
        obtain ⟨b, t, hv, hb, hts⟩ := id ho
        obtain ⟨us, u1, u2, u3⟩ := id hts
        refine ⟨_, rfl, v, _, _, _, rfl, rfl, SqT.of hv, atI_nat (j := 0) rfl, rfl, true, rfl, ?_⟩
        refine ⟨_, rfl, .inl ⟨rfl, _, SqL.of hF⟩, _, rfl, v, _, _, _, rfl, rfl, SqT.of hv, atI_nat (j := 1) rfl, b, _, rfl, .inl (SqL.of hb), fun b' nb' => ?_⟩
        have x1 := same_upd (o := .lst (c.map V.int)) nb'
        refine ⟨_, rfl, v, _, _, _, rfl, rfl, SqT.of (x1 _ _ hv), atI_nat (j := 2) rfl, t, _, rfl, .inl (SqL.of (x1 _ _ u1)), fun t' nt' => ⟨by show 3 ≤ sizeLine; decide, fun u nu => ?_⟩⟩
        have x2 := same_upd (o := .lst (us.map V.ref)) nt'
        have x3 := same_upd (o := .tup [.str "many", .ref b', .ref t']) nu
        have nbF : b' ≠ F := fun z => by rw [z, hF] at nb'; cases nb'
        have ntF : t' ≠ F := fun z => by rw [z, x1 _ _ hF] at nt'; cases nt'
        have nuF : u ≠ F := fun z => by rw [z, x2 _ _ (x1 _ _ hF)] at nu; cases nu
        have xx := (x1.trans x2).trans x3
        refine ⟨F, _, _, rfl, rfl, fin _ u xx fun d hd => ⟨b', t', cut_put (nfr _ u (x1.trans x2) nu d hd) (cut_put nuF upd_same), cut_put (nfr _ b' (.refl _) nb' d hd) (cut_put nbF ((x2.trans x3) _ _ upd_same)), us, cut_put (nfr _ t' x1 nt' d hd) (cut_put ntF (x3 _ _ upd_same)), u2, fun j w t'' hw ht => ?_⟩⟩
        have e := xx _ _ (u3 j w t'' hw ht)
        obtain ⟨xs, ed⟩ := dd d hd
        exact cut_put (ne_of e (xx _ _ ed) (fun z => nomatch z)) (cut_put (ne_of e (xx _ _ hF) (fun z => nomatch z)) e)
      | pack c pr =>
        obtain ⟨b, hv, hb⟩ := id ho
        refine ⟨_, rfl, v, _, _, _, rfl, rfl, SqT.of hv, atI_nat (j := 0) rfl, rfl, false, rfl, ?_⟩
        refine ⟨_, rfl, .inl ⟨rfl, _, SqL.of hF⟩, _, rfl, v, _, _, _, rfl, rfl, SqT.of hv, atI_nat (j := 0) rfl, _, rfl, v, _, _, _, rfl, rfl, SqT.of hv, atI_nat (j := 1) rfl, b, _, rfl, .inl (SqL.of hb), fun b' nb' => ⟨by show 2 ≤ sizeLine; decide, fun u nu => ?_⟩⟩
        have x1 := same_upd (o := .lst (c.map V.int)) nb'
        have x2 := same_upd (o := .tup [.str "pack", .ref b']) nu
        refine ⟨_, rfl, 2, rfl, v, _, rfl, SqT.of ((x1.trans x2) _ _ hv), no0 _, fun r nr => ?_⟩
        have x3 := same_upd (o := .tup (cutV [.str "pack", .ref b, .int pr] (some 2) none)) nr
        refine ⟨u, r, _, _, rfl, rfl, SqT.of (x3 _ _ upd_same), SqT.of upd_same, (by simp), (by rw [cut2]; exact szL (by simp)), fun z => absurd z (by rw [cut2]; simp), fun _ p np => ?_⟩
        rw [cut2]
        have x4 := same_upd (o := .tup ([.str "pack", .ref b'] ++ ([.str "pack", .ref b, .int pr] : List V).drop 2)) np
        rw [cut2] at x3 np
        have nbF : b' ≠ F := fun z => by rw [z, hF] at nb'; cases nb'
        have xx := ((x1.trans x2).trans x3).trans x4
        have npF : p ≠ F := fun z => by rw [z, ((x1.trans x2).trans x3) _ _ hF] at np; cases np
        exact ⟨F, _, _, rfl, rfl, fin _ p xx fun d hd => ⟨b', cut_put (nfr _ p ((x1.trans x2).trans x3) np d hd) (cut_put npF upd_same), cut_put (nfr _ b' (.refl _) nb' d hd) (cut_put nbF (((x2.trans x3).trans x4) _ _ upd_same))⟩⟩
      | add c pr kk =>
        obtain ⟨b, hv, hb⟩ := id ho
        refine ⟨_, rfl, v, _, _, _, rfl, rfl, SqT.of hv, atI_nat (j := 0) rfl, rfl, false, rfl, ?_⟩
        refine ⟨_, rfl, .inl ⟨rfl, _, SqL.of hF⟩, _, rfl, v, _, _, _, rfl, rfl, SqT.of hv, atI_nat (j := 0) rfl, _, rfl, v, _, _, _, rfl, rfl, SqT.of hv, atI_nat (j := 1) rfl, b, _, rfl, .inl (SqL.of hb), fun b' nb' => ⟨by show 2 ≤ sizeLine; decide, fun u nu => ?_⟩⟩
        have x1 := same_upd (o := .lst (c.map V.int)) nb'
        have x2 := same_upd (o := .tup [.str "add", .ref b']) nu
        refine ⟨_, rfl, 2, rfl, v, _, rfl, SqT.of ((x1.trans x2) _ _ hv), no0 _, fun r nr => ?_⟩
        have x3 := same_upd (o := .tup (cutV [.str "add", .ref b, .int pr, .int kk] (some 2) none)) nr
        refine ⟨u, r, _, _, rfl, rfl, SqT.of (x3 _ _ upd_same), SqT.of upd_same, (by simp), (by rw [cut2]; exact szL (by simp)), fun z => absurd z (by rw [cut2]; simp), fun _ p np => ?_⟩
        rw [cut2]
        have x4 := same_upd (o := .tup ([.str "add", .ref b'] ++ ([.str "add", .ref b, .int pr, .int kk] : List V).drop 2)) np
        rw [cut2] at x3 np
        have nbF : b' ≠ F := fun z => by rw [z, hF] at nb'; cases nb'
        have xx := ((x1.trans x2).trans x3).trans x4
        have npF : p ≠ F := fun z => by rw [z, ((x1.trans x2).trans x3) _ _ hF] at np; cases np
        exact ⟨F, _, _, rfl, rfl, fin _ p xx fun d hd => ⟨b', cut_put (nfr _ p ((x1.trans x2).trans x3) np d hd) (cut_put npF upd_same), cut_put (nfr _ b' (.refl _) nb' d hd) (cut_put nbF (((x2.trans x3).trans x4) _ _ upd_same))⟩⟩
    · obtain ⟨y2, rfl, s2, ws, hF, al⟩ := hp
      rw [List.length_map, h2, List.take_length] at al
      refine ⟨_, rfl, q H2 F s2 nF (fun d xs hd => ?_) (ShopAt.of_al hF ((al F (.inl rfl)).imp fun l x h => (h.same cut_le).same cut_le))⟩
      have nFd : F ≠ d := fun z => by rw [z, hd] at nF; cases nF
      exact ShopAt.of_al (cut_put nFd hF) ((al d (.inr ⟨xs, hd⟩)).imp fun l x h => h.same (cut_mono cut_le))
end
/-! ### _law_names, _law_content_text -/
abbrev s_law_names : Stmt := topS 42
abbrev N_law_names : List Str := ["_law_draws_here", "_law_many", "_law_odd", "_law_found", "_law_k", "_law_number", "_law_letters", "_law_name", "_law_j"]
theorem sc_law_names : FnScope N_law_names ["_law_draws_here", "_law_many"] (defScope s_law_names) := ⟨rfl, rfl, rfl, by decide +kernel, rfl, by decide +kernel, by decide +kernel⟩

abbrev s_law_content_text : Stmt := topS 43
abbrev N_law_content_text : List Str := ["_law_names_here", "_law_content_here", "_law_pieces", "_law_k"]
theorem sc_law_content_text : FnScope N_law_content_text ["_law_names_here", "_law_content_here"] (defScope s_law_content_text) := ⟨rfl, rfl, rfl, by decide +kernel, rfl, by decide +kernel, by decide +kernel⟩

/-- a text times a number from 2 on -/
theorem op_mulS {X : Cx} : OpR X (binaryOp .Mult) (fun x y H Q => ∃ (c : Nat) (n : Nat), x = .str ⟨#[c]⟩ ∧ y = .int (n : Int) ∧ 2 ≤ n ∧ n ≤ 100 ∧ Q (.str ⟨(List.replicate n #[c]).foldl (· ++ ·) #[]⟩) H) := by
  intro pins s σ H x y v u Q I rx ry h
  obtain ⟨c, n, rfl, rfl, h1, h2, q⟩ := h
  obtain ⟨t, rfl⟩ := rx
  obtain ⟨t', rfl⟩ := ry
  have e1 : (((n : Nat) : Int) == 1) = false := beq_eq_false_iff_ne.mpr (by omega)
  have l1 : (⟨#[c]⟩ : Str).length = 1 := rfl
  refine PySem.P.mul_str (by
    rw [decide_eq_false (by omega), decide_eq_false (by omega)]
    rfl) (fun _ _ => ?_) (fun _ _ => ?_) ?_
  · rw [l1]
    have : ((2 : Int) ^ 63 - 1) / (n : Int) ≥ 1 := by
      refine (Int.le_ediv_iff_mul_le (by omega)).mpr ?_
      omega
    omega
  · rw [l1, Int.toNat_natCast]
    have hz : ¬ (1 * n > sizeLine) := by
      have := sizeLine_eq
      omega
    exact decide_eq_false hz
  · rw [if_neg (by omega), if_neg (by rw [e1, l1]; decide), Int.toNat_natCast]
    refine ⟨?_, .str _, H, I.tok _, ⟨_, rfl⟩, q⟩
    have key : ∀ (m : Nat) (acc : Array Nat), ((List.replicate m #[c]).foldl (· ++ ·) acc).size = acc.size + m := by
      intro m
      induction m with
      | zero => intro acc; rfl
      | succ m ih =>
        intro acc
        rw [List.replicate_succ, List.foldl_cons, ih, Array.size_append]
        show acc.size + 1 + m = _
        omega
    have k2 := key n #[]
    show ((List.replicate n #[c]).foldl (· ++ ·) #[]).size ≤ sizeLine
    rw [k2]
    have := sizeLine_eq
    show 0 + n ≤ sizeLine
    omega

/-- data: lists of texts -/
theorem dpAll_strs {K : PySem.W.Frag} {H : Hp} : ∀ xs : List Str, DpAll K H (xs.map V.str) (xs.map PyData.str)
  | [] => .nil
  | x :: r => .cons (.str x) (dpAll_strs r)
theorem dp_strs {K : PySem.W.Frag} {H : Hp} {a : Addr} {xs : List Str} (h : SqL K H a (xs.map V.str)) : Dp K H (.ref a) (.list (xs.map PyData.str)) := .lst h (dpAll_strs xs)
def Signs (x : Str) : Prop := ∀ c ∈ TL.tl x, c < 256
theorem lay_strs (xs : List Str) (h : ∀ x ∈ xs, Signs x) : PyData.canLayAll0 (xs.map PyData.str) = true := by
  have e : PyData.canLayAll0 (xs.map PyData.str) = xs.all PyData.strOk := by
    induction xs with
    | nil => simp [PyData.canLayAll0]
    | cons x r ih =>
      have := ih fun z hz => h z (List.mem_cons_of_mem _ hz)
      simp [PyData.canLayAll0, PyData.canLay0, this]
  rw [e, List.all_eq_true]
  intro x hx
  unfold PyData.strOk
  rw [← Array.all_toList, List.all_eq_true]
  intro c hc
  have := h x hx c hc
  exact decide_eq_true (by omega)
theorem depth_strs : ∀ xs : List Str, PyData.depthAll (xs.map PyData.str) = 0
  | [] => by simp [PyData.depthAll]
  | x :: r => by
    have ih := depth_strs r
    simp [PyData.depthAll, PyData.depth, ih]
theorem shaped_strs {xs : List Str} (h : ∀ x ∈ xs, Signs x) : SeqAt.shaped (.list (xs.map PyData.str)) = true := by
  unfold SeqAt.shaped
  have h1 : PyData.canLay0 (.list (xs.map PyData.str)) = true := by
    simp only [PyData.canLay0]
    exact lay_strs xs h
  have h2 : PyData.depth (.list (xs.map PyData.str)) ≤ 64 := by
    simp only [PyData.depth]
    rw [depth_strs]
    omega
  rw [h1, decide_eq_true h2]
  rfl
theorem eqv_nil_strs (xs : List Str) : PyData.eqv (.list (xs.map PyData.str)) (.list []) = decide (xs = []) := by
  cases xs with
  | nil => simp [PyData.eqv, PyData.eqvAll]
  | cons x r => simp [PyData.eqv, PyData.eqvAll]

theorem GoodN.signs {xs : List Str} (g : GoodN xs) : ∀ x ∈ xs, Signs x := fun x hx c hc => by
  have := g.small x hx c hc
  omega
theorem part_signs {xs : List Str} {cs : List Int} (g : GoodN xs) {i : Nat} (hi : i < xs.length) : Signs (partAt xs cs i) := fun c hc => by
  unfold partAt at hc
  rw [tl_part] at hc
  rcases List.mem_append.mp hc with z | z
  · have : ¬ (c < 48 ∨ 57 < c) := fun q => TL.numL_free q z
    omega
  · rcases List.mem_cons.mp z with z | z
    · omega
    · have := g.small _ (name_at hi).2 _ z
      omega
def sp_law_text : Sp := fun vs H Q _ => ∃ (a b : Addr) (xs : List Str) (cs : List Int), vs = [.ref a, .ref b] ∧ H a = some (LS xs) ∧ H b = some (LI cs) ∧ GoodN xs ∧ FitC xs cs ∧ ∀ H', Same H H' → Q (.str (showM xs cs)) H'
section
variable {P : Program} {w : World} {K : PySem.W.Frag} {mg : Str → Option Value} {base : Heap} {T : List Addr}
theorem ok_law_text {f : Addr} {fd : FuncData} {k : Nat} (M : Names mg) (D : Def K mg "_law_content_text" s_law_content_text ["_law_names_here", "_law_content_here"] f fd) : FnOk P w K mg base CX0 (k + 1) f fd ["_law_names_here", "_law_content_here"] sp_law_text := by
  refine D.F.ok sc_law_content_text (fun vs H Q E h => ?_) (fun cdv A outer s H vs Q E hr h => ?_)
  · obtain ⟨a, b, xs, cs, rfl, _⟩ := h
    rfl
  · obtain ⟨a, b, xs, cs, rfl, ha, hb, g, fc, q⟩ := h
    have few := g.few
    refine ⟨_, (pss_cons (ps_setLc (i := 2) (own := [("_law_k", 3)]) (by rfl) sc_law_content_text.nd rfl rfl (sw_true rfl rfl rfl (by decide +kernel)) (pi_range1 (by rfl) M.range (pa_cons (pe_callB call_len_seq (by rfl) M.len (by decide +kernel) (pa_cons (pv 0) pa_nil)) pa_nil)) (blkOk_by (own := [("_law_k", 3)]) (N := N_law_content_text) (sc := defScope s_law_content_text) (by decide +kernel)) (fun _ _ _ _ _ => (pg_name (i := 3) sc_law_content_text.nd rfl (Or.inl rfl))) (fun _ _ _ _ _ => (pts_one (pt_cmpR op_gt (pe_ix (ix_listK (K := K) rfl) (pv 1) (pv 3) (fun _ _ => rfl)) pe_int (nomark _)))) (fun _ _ _ _ _ => (pe_op op_add_str (pe_op op_add_str (pe_callTy call_str_int (by rfl) M.str (by decide +kernel) (pa_cons (pe_ix (ix_listK (K := K) rfl) (pv 1) (pv 3) (fun _ _ => rfl)) pa_nil)) pe_str) (pe_ix (ix_listK (K := K) rfl) (pv 0) (pv 3) (fun _ _ => rfl)))))
  (pss_cons (ps_if (pt_cmpR (op_eqD hr.units) (pv 2) (pe_lst pa_nil) (nomark _))
   (pss_one (ps_ret pe_str))
   pss_nil)
  (pss_one (ps_ret (pe_join pe_str (pv 2)))))), ?_⟩
    refine ⟨_, rfl, a, _, rfl, .inl (SqL.of ha), _, rfl, by omega, by rw [List.length_map]; omega, fun B nB => lc_range (lo := 0) (n := (((xs.map V.str).length : Nat) : Int).toNat) (fun i H' => Same H H' ∧ H' B = some (LS (partsM xs cs i))) ⟨same_upd nB, upd_same⟩ (fun i H1 hi hp => ?_) (fun H1 hp => ?_)⟩
    · obtain ⟨s1, hB⟩ := hp
      rw [Int.toNat_natCast, List.length_map] at hi
      obtain ⟨f1, f2, f3⟩ := fc.at hi
      obtain ⟨g1, g2⟩ := name_at hi
      have sh := g.short _ g2
      have l1 := num1_len f2 f3
      refine ⟨rfl, _, rfl, _, rfl, b, _, _, _, rfl, rfl, SqL.of (s1 _ _ hb), at_of (Int.zero_add _) (get_ints f1), _, _, rfl, rfl, _, rfl, ite2 (fun c => ?_) (fun c => ?_)⟩
      · have c2 : cs.getD i 0 > 0 := of_decide_eq_true c
        refine ⟨_, rfl, _, rfl, b, _, _, _, rfl, rfl, SqL.of (s1 _ _ hb), at_of (Int.zero_add _) (get_ints f1), _, rfl, small_log f2 f3, _, _, rfl, rfl, szL (by rw [blank_len]; omega), _, rfl, _, rfl, a, _, _, _, rfl, rfl, SqL.of (s1 _ _ ha), at_of (Int.zero_add _) (get_strs g1), _, _, rfl, rfl, szL (by rw [str_len_app, blank_len]; omega), ?_⟩
        refine ⟨_, hB, szL' (by rw [List.length_map]; have := partsM_len xs cs i; omega), sm_new s1 nB, ?_⟩
        have e := fpart f2 (xs.getD i Str.empty)
        rw [str_nil_app] at e
        rw [upd_same, ls_app, partsM_succ, if_pos c2, e]
        rfl
      · have c2 : ¬ cs.getD i 0 > 0 := fun z => c (decide_eq_true z)
        refine ⟨s1, ?_⟩
        rw [partsM_succ, if_neg c2, List.append_nil]
        exact hB
    · obtain ⟨s1, hB⟩ := hp
      rw [Int.toNat_natCast, List.length_map] at hB
      have hl := partsM_len xs cs xs.length
      have pl : ∀ p ∈ partsM xs cs xs.length, p.length ≤ 10 := fun p hp => by
        obtain ⟨i, hi, _, rfl⟩ := parts_all hp
        exact partAt_len g fc hi
      have ps := parts_sum pl
      have sg : ∀ p ∈ partsM xs cs xs.length, Signs p := fun p hp => by
        obtain ⟨i, hi, _, rfl⟩ := parts_all hp
        exact part_signs g hi
      have cl : (", " : Str).length = 2 := by decide +kernel
      refine ⟨_, rfl, by decide, fun e ne => ?_⟩
      have s2 := s1.trans (same_upd (o := .lst []) ne)
      have hB2 := (same_upd (o := .lst []) ne) _ _ hB
      refine ⟨_, .list [], dp_strs (SqL.of hB2), .lst (SqL.of upd_same) .nil, shaped_strs sg, by decide +kernel, _, rfl, ?_⟩
      rw [eqv_nil_strs]
      unfold showM at q
      by_cases z : partsM xs cs xs.length = []
      · rw [if_pos z] at q
        rw [decide_eq_true z]
        exact q _ s2
      · rw [if_neg z] at q
        rw [decide_eq_false z]
        refine ⟨⟨_, rfl⟩, _, rfl, _, B, _, rfl, rfl, .inl (SqL.of hB2), by rw [cl]; omega, ?_⟩
        rw [TL.join_eq]
        exact q _ s2
end
/-! ### the drawn names -/
def rep8 (k : Nat) : Str := ⟨(List.replicate 8 #[97 + k]).foldl (· ++ ·) #[]⟩
theorem tl_rep8 (k : Nat) : TL.tl (rep8 k) = [97 + k, 97 + k, 97 + k, 97 + k, 97 + k, 97 + k, 97 + k, 97 + k] := by
  simp [rep8, TL.tl, List.replicate]
/-- a name that is no eight times one letter -/
structure GoodX (x : Str) : Prop where
  small : ∀ c ∈ TL.tl x, 97 ≤ c ∧ c ≤ 122
  short : x.length ≤ 7
  some : 1 ≤ x.length
def oddW : List Str := ["for", "many", "with", "nothing", "x", "things", "none", "i"]
theorem odd_good : ∀ j, j < 8 → ∃ x, (oddW.map V.str)[j]? = some (.str x) ∧ GoodX x := fun j h =>
  match j, h with
  | 0, _ => ⟨"for", rfl, by decide +kernel, by decide +kernel, by decide +kernel⟩
  | 1, _ => ⟨"many", rfl, by decide +kernel, by decide +kernel, by decide +kernel⟩
  | 2, _ => ⟨"with", rfl, by decide +kernel, by decide +kernel, by decide +kernel⟩
  | 3, _ => ⟨"nothing", rfl, by decide +kernel, by decide +kernel, by decide +kernel⟩
  | 4, _ => ⟨"x", rfl, by decide +kernel, by decide +kernel, by decide +kernel⟩
  | 5, _ => ⟨"things", rfl, by decide +kernel, by decide +kernel, by decide +kernel⟩
  | 6, _ => ⟨"none", rfl, by decide +kernel, by decide +kernel, by decide +kernel⟩
  | 7, _ => ⟨"i", rfl, by decide +kernel, by decide +kernel, by decide +kernel⟩
/-- the names drawn so far -/
structure DrawnN (xs : List Str) : Prop where
  nd : xs.Nodup
  each : ∀ (j : Nat) x, xs[j]? = some x → GoodX x ∨ (x = rep8 j ∧ j < 4)
theorem rep8_letters {k : Nat} (h : k < 4) : ∀ c ∈ TL.tl (rep8 k), 97 ≤ c ∧ c ≤ 122 := fun c hc => by
  rw [tl_rep8] at hc
  simp only [List.mem_cons, List.not_mem_nil, or_false] at hc
  omega
theorem rep8_len (k : Nat) : (rep8 k).length = 8 := by
  rw [TL.len_tl, tl_rep8]
  rfl
theorem DrawnN.good {xs : List Str} (h : DrawnN xs) (hl : xs.length ≤ 4) : GoodN xs := by
  have key : ∀ x ∈ xs, (∀ c ∈ TL.tl x, 97 ≤ c ∧ c ≤ 122) ∧ x.length ≤ 8 ∧ 1 ≤ x.length := fun x hx => by
    obtain ⟨j, hj, e⟩ := List.getElem_of_mem hx
    rcases h.each j x (by rw [← e]; exact List.getElem?_eq_getElem hj) with g | ⟨rfl, h4⟩
    · exact ⟨g.small, Nat.le_succ_of_le g.short, g.some⟩
    · exact ⟨rep8_letters h4, by rw [rep8_len]; decide, by rw [rep8_len]; decide⟩
  exact ⟨hl, h.nd, fun x hx => (key x hx).1, fun x hx => (key x hx).2.1, fun x hx => (key x hx).2.2⟩
theorem DrawnN.snoc {xs : List Str} {x : Str} (h : DrawnN xs) (hn : x ∉ xs) (hx : GoodX x ∨ (x = rep8 xs.length ∧ xs.length < 4)) : DrawnN (xs ++ [x]) := by
  refine ⟨?_, fun j y hy => ?_⟩
  · refine List.nodup_append.mpr ⟨h.nd, List.nodup_cons.mpr ⟨by simp, List.nodup_nil⟩, fun a ha b hb => ?_⟩
    rw [List.mem_singleton.mp hb]
    exact fun e => hn (e ▸ ha)
  · by_cases hj : j < xs.length
    · rw [List.getElem?_append_left hj] at hy
      exact h.each j y hy
    · have e : j = xs.length := by
        have := (List.getElem?_eq_some_iff.mp hy).1
        rw [List.length_append] at this
        have : j < xs.length + 1 := this
        omega
      subst e
      rw [List.getElem?_append_right (Nat.le_refl _), Nat.sub_self] at hy
      cases Option.some.inj hy
      exact hx
theorem DrawnN.other {xs : List Str} (h : DrawnN xs) (h4 : xs.length < 4) : rep8 xs.length ∉ xs := fun z => by
  obtain ⟨j, hj, e⟩ := List.getElem_of_mem z
  have hg : xs[j]? = some (rep8 xs.length) := by rw [List.getElem?_eq_getElem hj, e]
  rcases h.each j _ hg with g | ⟨e2, _⟩
  · have := g.short
    rw [rep8_len] at this
    omega
  · have e3 := congrArg TL.tl e2
    rw [tl_rep8, tl_rep8] at e3
    have := (List.cons.inj e3).1
    omega
/-- letters put together -/
theorem joinL_flat : ∀ ps : List (List Nat), TL.joinL [] ps = ps.flatten
  | [] => rfl
  | [p] => by show p = p ++ [] ; rw [List.append_nil]
  | p :: q :: r => by
    show p ++ ([] ++ TL.joinL [] (q :: r)) = p ++ (q :: r).flatten
    rw [List.nil_append, joinL_flat (q :: r)]
def Letter (y : Str) : Prop := ∃ c, TL.tl y = [c] ∧ 97 ≤ c ∧ c ≤ 122
theorem flat_letters : ∀ ys : List Str, (∀ y ∈ ys, Letter y) → (ys.map TL.tl).flatten.length = ys.length ∧ ∀ c ∈ (ys.map TL.tl).flatten, 97 ≤ c ∧ c ≤ 122
  | [], _ => ⟨rfl, fun c hc => nomatch hc⟩
  | y :: r, h => by
    obtain ⟨h1, h2⟩ := flat_letters r fun z hz => h z (List.mem_cons_of_mem _ hz)
    obtain ⟨c0, e, hc⟩ := h y List.mem_cons_self
    rw [List.map_cons, List.flatten_cons, e]
    refine ⟨by rw [List.length_append, h1]; show 1 + r.length = r.length + 1; omega, fun c hc' => ?_⟩
    rcases List.mem_append.mp hc' with z | z
    · rw [List.mem_singleton.mp z]
      exact hc
    · exact h2 c z
theorem join_letters {ys : List Str} (h : ∀ y ∈ ys, Letter y) (h1 : 1 ≤ ys.length) (h7 : ys.length ≤ 7) : GoodX (Txt.join ("" : Str) ys) := by
  obtain ⟨e1, e2⟩ := flat_letters ys h
  have et : TL.tl (Txt.join ("" : Str) ys) = (ys.map TL.tl).flatten := by
    rw [TL.join_eq, TL.tl_join, show TL.tl ("" : Str) = [] by decide +kernel, joinL_flat]
  have el : (Txt.join ("" : Str) ys).length = ys.length := by rw [TL.len_tl, et, e1]
  exact ⟨fun c hc => e2 c (by rw [← et]; exact hc), by omega, by omega⟩
theorem letters_sum : ∀ ys : List Str, (∀ y ∈ ys, Letter y) → (ys.map (·.length)).sum = ys.length
  | [], _ => rfl
  | y :: r, h => by
    have ih := letters_sum r fun z hz => h z (List.mem_cons_of_mem _ hz)
    obtain ⟨c0, e, hc⟩ := h y List.mem_cons_self
    have : y.length = 1 := by rw [TL.len_tl, e]; rfl
    rw [List.map_cons, List.sum_cons, ih, this, List.length_cons]
    omega
theorem at_num {α : Type} {l : List α} {i : Int} {j : Nat} {v : α} (e : i = (j : Int)) (h : l[j]? = some v) : atI l i = some v := by
  subst e
  exact atI_nat h
theorem abc_at {j : Nat} (h : j < 26) : ("abcdefghijklmnopqrstuvwxyz" : Str).cps.toList[j]? = some (97 + j) := by
  have : ∀ j, j < 26 → ("abcdefghijklmnopqrstuvwxyz" : Str).cps.toList[j]? = some (97 + j) := by decide +kernel
  exact this j h
theorem abcd_at {j : Nat} (h : j < 4) : ("abcd" : Str).cps.toList[j]? = some (97 + j) := by
  have : ∀ j, j < 4 → ("abcd" : Str).cps.toList[j]? = some (97 + j) := by decide +kernel
  exact this j h
theorem div_ok {j : Nat} (h : j < 7) : (0 : Int) < 100 * (1 + 2 * (0 + (j : Int)) * (0 + (j : Int))) ∧ 100 * (1 + 2 * (0 + (j : Int)) * (0 + (j : Int))) < 1073741824 :=
  match j, h with
  | 0, _ => by decide
  | 1, _ => by decide
  | 2, _ => by decide
  | 3, _ => by decide
  | 4, _ => by decide
  | 5, _ => by decide
  | 6, _ => by decide
def sp_law_names : Sp := fun vs H Q _ => ∃ (d : Addr) (ns : List Int) (m : Nat), vs = [.ref d, .int m] ∧ H d = some (LI ns) ∧ 1 ≤ m ∧ m ≤ 4 ∧
  ∀ H' p xs ns', SameBut d H H' → H p = none → p ≠ d → H' p = some (LS xs) → H' d = some (LI ns') → xs.length = m → GoodN xs → Q (.ref p) H'
section
variable {P : Program} {w : World} {K : PySem.W.Frag} {mg : Str → Option Value} {base : Heap} {T : List Addr}
theorem ok_law_names {f fp : Addr} {fd fdp : FuncData} {k : Nat} (M : Names mg) (D : Def K mg "_law_names" s_law_names ["_law_draws_here", "_law_many"] f fd) (D_law_pop : Def K mg "_law_pop" s_law_pop ["_law_draws_here"] fp fdp) : FnOk P w K mg base CX0 (k + 2) f fd ["_law_draws_here", "_law_many"] sp_law_names := by
  have G_law_pop : FnOk P w K mg base CX0 (k + 1) fp fdp ["_law_draws_here"] sp_pop := ok_pop D_law_pop
  refine D.F.ok sc_law_names (fun vs H Q E h => ?_) (fun cdv A outer s H vs Q E hr h => ?_)
  · obtain ⟨d, ns, m, rfl, _⟩ := h
    rfl
  · obtain ⟨d, ns, m, rfl, hd, hm1, hm4, q⟩ := h
    refine ⟨_, (pss_cons (ps_set (i := 2) sc_law_names.nd rfl (Or.inl rfl) (pe_lst (pa_cons pe_str (pa_cons pe_str (pa_cons pe_str (pa_cons pe_str (pa_cons pe_str (pa_cons pe_str (pa_cons pe_str (pa_cons pe_str pa_nil))))))))))
  (pss_cons (ps_set (i := 3) sc_law_names.nd rfl (Or.inl rfl) (pe_lst pa_nil))
  (pss_cons (ps_for PassesOwn.never rfl (pi_range1 (by rfl) M.range (pa_cons (pv 1) pa_nil)) (pg_name (i := 4) sc_law_names.nd rfl (Or.inl rfl))
   (pss_cons (ps_set (i := 5) sc_law_names.nd rfl (Or.inr rfl) (pe_call G_law_pop hr (by rfl) D_law_pop.g D_law_pop.F.kp D_law_pop.b .nil pass0 (pa_cons (pv 0) pa_nil)))
  (pss_cons (ps_set (i := 6) sc_law_names.nd rfl (Or.inr rfl) pe_str)
  (pss_cons (ps_set (i := 7) sc_law_names.nd rfl (Or.inl rfl) (pe_join pe_str (pe_lc (own := [("_law_j", 8)]) (by rfl) sc_law_names.nd (pi_range1 (by rfl) M.range (pa_cons (pe_op op_add pe_int (pe_op op_mod (pv 5) pe_int)) pa_nil)) (blkOk_by (own := [("_law_j", 8)]) (N := N_law_names) (sc := defScope s_law_names) (by decide +kernel)) (fun _ _ _ _ _ => (pg_name (i := 8) sc_law_names.nd rfl (Or.inl rfl))) (fun _ _ _ _ _ => pts_nil) (fun _ _ _ _ _ => (pe_ix ix_str (pv 6) (pe_op op_mod (pe_op op_fdiv (pv 5) (pe_op op_mul pe_int (pe_op op_add pe_int (pe_op op_mul (pe_op op_mul pe_int (pv 8)) (pv 8))))) pe_int) (fun _ _ => rfl))))))
  (pss_cutI (ps_if (pt_cmpR op_eq (pe_op op_mod (pe_op op_fdiv (pv 5) pe_int) pe_int) pe_int (nomark _))
   (pss_one (ps_set (i := 7) sc_law_names.nd rfl (Or.inl rfl) (pe_ix ix_list (pv 2) (pe_op op_mod (pe_op op_fdiv (pv 5) pe_int) pe_int) (fun _ _ => rfl))))
   pss_nil)
  (pss_cutI (ps_if (pt_cmpR op_in_seq (pv 7) (pv 3) (by rfl))
   (pss_one (ps_set (i := 7) sc_law_names.nd rfl (Or.inl rfl) (pe_op op_mulS (pe_ix ix_str pe_str (pv 4) (fun _ _ => rfl)) pe_int)))
   pss_nil)
  (pss_one (ps_expr (pe_bm PySem.F.plainAttrs_list PySem.F.slot_list_append PySem.F.type_list_append mt_append (pv 3) (pa_cons (pv 7) pa_nil))))))))))
  (pss_one (ps_ret (pv 3)))))), ?_⟩
    refine ⟨by show 8 ≤ sizeLine; decide, fun O nO => ⟨by decide, fun F nF => ?_⟩⟩
    have hO : upd (upd H O (.lst (oddW.map V.str))) F (.lst []) O = some (LS oddW) := (same_upd nF) _ _ upd_same
    have hF : upd (upd H O (.lst (oddW.map V.str))) F (.lst []) F = some (LS []) := upd_same
    have s0 := (same_upd (o := .lst (oddW.map V.str)) nO).trans (same_upd (o := .lst []) nF)
    have nF0 : H F = none := (same_upd nO).free nF
    have neFO : O ≠ F := ne_of_none upd_same nF
    have hd0 := s0 _ _ hd
    have neOd : O ≠ d := fun e => by rw [e, hd] at nO; cases nO
    have neFd : F ≠ d := fun e => by rw [e, hd] at nF0; cases nF0
    have hO' : (upd (upd H O (.lst [.str "for", .str "many", .str "with", .str "nothing", .str "x", .str "things", .str "none", .str "i"])) F (.lst [])) = upd (upd H O (.lst (oddW.map V.str))) F (.lst []) := rfl
    generalize hgen : upd (upd H O (.lst (oddW.map V.str))) F (.lst []) = H0 at hO hF s0 hd0 hO'
    refine ⟨_, rfl, _, rfl, by omega, by omega, for_range (n := ((m : Nat) : Int).toNat) (fun i σ H' => ∃ y4 y5 y6 y7, σ = [some (.ref d), some (.int m), some (.ref O), some (.ref F), y4, y5, y6, y7, none] ∧ SameBut d H H' ∧ H' O = some (LS oddW) ∧ (∃ ns', H' d = some (LI ns')) ∧ ∃ xs, H' F = some (LS xs) ∧ xs.length = i ∧ DrawnN xs) ?_ (fun i σ H1 hi hp => ?_) (fun σ H1 hp => ?_)⟩
    · exact ⟨none, none, none, none, rfl, hO' ▸ .of s0, hO' ▸ hO, ⟨_, hO' ▸ hd0⟩, [], hO' ▸ hF, rfl, ⟨List.nodup_nil, fun j x h => by simp at h⟩⟩
    · obtain ⟨y4, y5, y6, y7, rfl, s1, hO1, ⟨ns1, hd1⟩, xs, hF1, hl1, dr⟩ := hp
      rw [Int.toNat_natCast] at hi
      refine ⟨_, rfl, d, ns1, rfl, hd1, fun H2 s2 hd2 => ?_⟩
      generalize ns1.headD 0 = n0
      generalize ns1.tail = ns2 at hd2
      have hO2 := s2 _ _ neOd hO1
      have hF2 := s2 _ _ neFd hF1
      obtain ⟨cn, hc7, ec⟩ := mod_at (i := n0) (n := 7) (by decide)
      refine ⟨⟨_, rfl⟩, _, rfl, _, _, rfl, rfl, (by show (0 : Int) < _; decide), _, _, rfl, rfl, _, rfl, by show -(2 ^ 62) ≤ 1 + n0 % 7; omega, by show 1 + n0 % 7 < 2 ^ 62; omega, fun B nB => lc_range (lo := 0) (n := (1 + n0 % 7).toNat) (fun j H' => Same H2 H' ∧ ∃ ys, H' B = some (LS ys) ∧ ys.length = j ∧ ∀ y ∈ ys, Letter y) ⟨same_upd nB, [], upd_same, rfl, fun y hy => nomatch hy⟩ (fun j H3 hj hp => ?_) (fun H3 hp => ?_)⟩
      · obtain ⟨s3, ys, hB, hly, hle⟩ := hp
        have hj7 : j < 7 := by omega
        obtain ⟨jj, hjj, ej⟩ := mod_at (i := n0 / (100 * (1 + 2 * (0 + (j : Int)) * (0 + (j : Int))))) (n := 26) (by decide)
        refine ⟨rfl, _, rfl, _, rfl, _, rfl, _, _, rfl, rfl, .inl ⟨by decide, by decide⟩, _, rfl, _, _, rfl, rfl, .inr ⟨by omega, by omega⟩, _, _, rfl, rfl, _, _, rfl, rfl, .inl ⟨by decide, by decide⟩, _, _, rfl, rfl, div_ok hj7, _, _, rfl, rfl, (by show (0 : Int) < _; decide), _, _, 97 + jj, rfl, rfl, by decide +kernel, at_num ej (abc_at hjj), ?_⟩
        refine ⟨_, hB, szL' (by rw [List.length_map]; omega), sm_new s3 nB, ys ++ [_], by rw [upd_same, ls_app], by rw [List.length_append, hly]; rfl, fun y hy => ?_⟩
        rcases List.mem_append.mp hy with z | z
        · exact hle y z
        · rw [List.mem_singleton.mp z]
          exact ⟨97 + jj, rfl, by omega, by omega⟩
      · obtain ⟨s3, ys, hB, hly, hle⟩ := hp
        have s13 : SameBut d H H3 := (s1.trans s2).trans (.of s3)
        have hO3 := s3 _ _ hO2
        have hF3 := s3 _ _ hF2
        have hd3 := s3 _ _ hd2
        have gx := join_letters hle (by omega) (by omega)
        have sm := letters_sum ys hle
        refine ⟨_, B, ys, rfl, rfl, .inl (SqL.of hB), by rw [sm, show ("" : Str).length = 0 by decide +kernel]; omega, ?_⟩
        generalize Txt.join ("" : Str) ys = x0 at gx
        -- an odd word
        refine ⟨fun σ H' => ∃ x, σ = [some (.ref d), some (.int m), some (.ref O), some (.ref F), some (.int (0 + (i : Nat))), some (.int n0), some (.str "abcdefghijklmnopqrstuvwxyz"), some (.str x), none] ∧ H' = H3 ∧ GoodX x, ⟨_, rfl, _, _, rfl, rfl, ⟨by decide, by decide⟩, _, _, rfl, rfl, (by show (0 : Int) < _; decide), rfl, _, rfl, ite2 (fun _ => ?_) (fun _ => ?_)⟩, fun σ' H' hI => ?_⟩
        · obtain ⟨j8, h8, e8⟩ := mod_at (i := n0 / 21) (n := 8) (by decide)
          obtain ⟨x, hx, gx2⟩ := odd_good j8 h8
          exact ⟨_, rfl, _, rfl, _, _, rfl, rfl, ⟨by decide, by decide⟩, _, _, rfl, rfl, (by show (0 : Int) < _; decide), O, _, _, _, rfl, rfl, SqL.of hO3, at_of e8 hx, x, rfl, rfl, gx2⟩
        · exact ⟨x0, rfl, rfl, gx⟩
        · obtain ⟨x, rfl, rfl, gx⟩ := hI
          refine ⟨fun σ H4 => ∃ x, σ = [some (.ref d), some (.int m), some (.ref O), some (.ref F), some (.int (0 + (i : Nat))), some (.int n0), some (.str "abcdefghijklmnopqrstuvwxyz"), some (.str x), none] ∧ H4 = H' ∧ x ∉ xs ∧ (GoodX x ∨ (x = rep8 xs.length ∧ xs.length < 4)), ⟨_, rfl, _, rfl, F, _, rfl, .inl (SqL.of hF3), rfl, flat_strs xs, _, rfl, ite2 (fun c => ?_) (fun c => ?_)⟩, fun σ' H4 hI => ?_⟩
          · have h4 : xs.length < 4 := by omega
            refine ⟨_, rfl, _, _, 97 + i, rfl, rfl, by decide +kernel, at_num (Int.zero_add _) (abcd_at (by omega)), 97 + i, 8, rfl, rfl, by decide, by decide, rep8 xs.length, ?_, rfl, dr.other h4, .inr ⟨rfl, h4⟩⟩
            rw [hl1]
            rfl
          · refine ⟨x, rfl, rfl, fun z => ?_, .inl gx⟩
            refine c ?_
            show inV (.str x) (xs.map V.str) = true
            rw [inV_strs, decide_eq_true z]
          · obtain ⟨x, rfl, rfl, nx, gx⟩ := hI
            refine ⟨_, rfl, .inl ⟨rfl, _, SqL.of hF3⟩, _, rfl, F, _, _, rfl, rfl, hF3, szL' (by rw [List.length_map]; omega), ?_⟩
            refine ⟨_, _, _, _, rfl, s13.new nF0, ?_, ⟨ns2, ?_⟩, xs ++ [x], by rw [upd_same, ls_app], by rw [List.length_append, hl1]; rfl, dr.snoc nx gx⟩
            · rw [upd_ne neFO]
              exact hO3
            · rw [upd_ne (fun e => neFd e.symm)]
              exact hd3
    · obtain ⟨y4, y5, y6, y7, rfl, s1, hO1, ⟨ns1, hd1⟩, xs, hF1, hl1, dr⟩ := hp
      rw [Int.toNat_natCast] at hl1
      exact ⟨_, rfl, q H1 F xs ns1 s1 nF0 neFd hF1 hd1 hl1 (dr.good (by omega))⟩
end
/-! ### texts of offers -/
theorem tl_for : TL.tl (" for " : Str) = [32, 102, 111, 114, 32] := by decide +kernel
theorem tl_colon : TL.tl (": " : Str) = [58, 32] := by decide +kernel
theorem tl_manyW : TL.tl ("many " : Str) = [109, 97, 110, 121, 32] := by decide +kernel
theorem tl_withW : TL.tl ("with " : Str) = [119, 105, 116, 104, 32] := by decide +kernel
theorem for_len : (" for " : Str).length = 5 := by decide +kernel
theorem colon_len : (": " : Str).length = 2 := by decide +kernel
theorem comma_len : (", " : Str).length = 2 := by decide +kernel
theorem word5_len : ("many " : Str).length = 5 ∧ ("with " : Str).length = 5 := by decide +kernel
def tierS (t : Int × Int) : Str := numS t.1.toNat ++ (" for " : Str) ++ numS t.2.toNat
def tiersS (ts : List (Int × Int)) : Str := Str.join (", " : Str) (ts.map tierS)
def soldS (xs : List Str) (c : List Int) (p : Int) : Str := showM xs c ++ (" for " : Str) ++ numS p.toNat
def offerS (xs : List Str) : Ofr → Str
  | .pack c p => soldS xs c p
  | .many c ts => ("many " : Str) ++ (showM xs c ++ (": " : Str) ++ tiersS ts)
  | .add c p k => ("with " : Str) ++ (numS k.toNat ++ (": " : Str) ++ soldS xs c p)
theorem str_assoc (a b c : Str) : a ++ b ++ c = a ++ (b ++ c) := TL.ext_tl (by rw [TL.tl_append, TL.tl_append, TL.tl_append, TL.tl_append, List.append_assoc])
/-- the text's last « for » -/
theorem rpart_app (a : Str) (n : Nat) : Txt.rpartition (a ++ (" for " : Str) ++ numS n) (" for " : Str) = (a, (" for " : Str), numS n) := by
  have hy : TL.tl (" for " : Str) ≠ [] := by rw [tl_for]; exact fun z => nomatch z
  have et : TL.tl (a ++ (" for " : Str) ++ numS n) = TL.tl a ++ ([32, 102, 111, 114, 32] ++ TL.numL n) := by rw [TL.tl_append, TL.tl_append, tl_for, tl_numS, List.append_assoc]
  have la : a.length = (TL.tl a).length := TL.len_tl a
  have hit : StrLaws.At (a ++ (" for " : Str) ++ numS n) (" for " : Str) (a ++ (" for " : Str) ++ numS n).length a.length := by
    rw [TL.at_iff hy, et, la, List.drop_left, tl_for]
    exact TL.pre_self _ _
  have miss : ∀ k, a.length < k → ¬ StrLaws.At (a ++ (" for " : Str) ++ numS n) (" for " : Str) (a ++ (" for " : Str) ++ numS n).length k := fun k hk => by
    obtain ⟨j, rfl⟩ : ∃ j, k = (TL.tl a).length + (j + 1) := ⟨k - a.length - 1, by omega⟩
    have dr : ∀ c r, c ≠ 32 → TL.pre [32, 102, 111, 114, 32] (c :: r) = false := fun c r h => TL.pre_of_head _ _ h
    rw [TL.at_iff hy, et, tl_for, ← List.drop_drop, List.drop_left]
    have fg : ∀ c ∈ TL.numL n, c ≠ 32 ∧ c ≠ 102 := fun c hc => ⟨fun z => TL.numL_free (.inl (by decide)) (z ▸ hc), fun z => TL.numL_free (.inr (by decide)) (z ▸ hc)⟩
    match j with
    | 0 => rw [show (([32, 102, 111, 114, 32] : List Nat) ++ TL.numL n).drop (0 + 1) = 102 :: ([111, 114, 32] ++ TL.numL n) from rfl, dr _ _ (by decide)]; decide
    | 1 => rw [show (([32, 102, 111, 114, 32] : List Nat) ++ TL.numL n).drop (1 + 1) = 111 :: ([114, 32] ++ TL.numL n) from rfl, dr _ _ (by decide)]; decide
    | 2 => rw [show (([32, 102, 111, 114, 32] : List Nat) ++ TL.numL n).drop (2 + 1) = 114 :: ([32] ++ TL.numL n) from rfl, dr _ _ (by decide)]; decide
    | 3 =>
      rw [show (([32, 102, 111, 114, 32] : List Nat) ++ TL.numL n).drop (3 + 1) = 32 :: TL.numL n from rfl]
      intro z
      have e : (32 :: TL.numL n).take 5 = [32, 102, 111, 114, 32] := eq_of_beq z
      rw [List.take_succ_cons] at e
      have e2 := (List.cons.inj e).2
      have m : 102 ∈ (TL.numL n).take 4 := by rw [e2]; exact List.mem_cons_self
      exact (fg 102 (List.mem_of_mem_take m)).2 rfl
    | j + 4 =>
      rw [show (([32, 102, 111, 114, 32] : List Nat) ++ TL.numL n).drop (j + 4 + 1) = (TL.numL n).drop j from rfl]
      cases e : (TL.numL n).drop j with
      | nil => decide
      | cons c r =>
        have := (fg c (List.mem_of_mem_drop (by rw [e]; exact List.mem_cons_self))).1
        rw [dr _ _ this]
        decide
  have key : Builtin.Str.lastOccurrence (a ++ (" for " : Str) ++ numS n) (" for " : Str) 0 (a ++ (" for " : Str) ++ numS n).length = some a.length := by
    rcases StrLaws.last_spec (a ++ (" for " : Str) ++ numS n) (" for " : Str) with ⟨_, h⟩ | ⟨i, e, h1, h2⟩
    · exact absurd hit (h _)
    · rcases Nat.lt_trichotomy i a.length with z | z | z
      · exact absurd hit (h2 _ z)
      · rw [e, z]
      · exact absurd h1 (miss _ z)
  unfold Txt.rpartition
  rw [key]
  show (_, _, _) = _
  have e1 : Builtin.Str.strSub (a ++ (" for " : Str) ++ numS n) 0 a.length = a := TL.ext_tl (by
    rw [TL.tl_strSub, et, List.drop_zero, Nat.sub_zero, la]
    exact List.take_left)
  have e2 : Builtin.Str.strSub (a ++ (" for " : Str) ++ numS n) (a.length + (" for " : Str).length) (a ++ (" for " : Str) ++ numS n).length = numS n := TL.ext_tl (by
    rw [TL.tl_strSub_end, et, la, for_len, ← List.drop_drop, List.drop_left, tl_numS]
    rfl)
  rw [e1, e2]
/-- the signs of contents' text -/
theorem show_signs {xs : List Str} {cs : List Int} (g : GoodN xs) : ∀ c ∈ TL.tl (showM xs cs), c = 32 ∨ c = 44 ∨ (48 ≤ c ∧ c ≤ 57) ∨ (97 ≤ c ∧ c ≤ 122) := by
  unfold showM
  by_cases z : partsM xs cs xs.length = []
  · rw [if_pos z]
    decide +kernel
  · rw [if_neg z, TL.tl_join]
    have key : ∀ ps : List (List Nat), (∀ p ∈ ps, ∀ c ∈ p, c = 32 ∨ c = 44 ∨ (48 ≤ c ∧ c ≤ 57) ∨ (97 ≤ c ∧ c ≤ 122)) → ∀ c ∈ TL.joinL (TL.tl (", " : Str)) ps, c = 32 ∨ c = 44 ∨ (48 ≤ c ∧ c ≤ 57) ∨ (97 ≤ c ∧ c ≤ 122) := by
      intro ps
      induction ps with
      | nil => intro _ c hc; cases hc
      | cons p r ih =>
        intro h c hc
        cases r with
        | nil => exact h p List.mem_cons_self c hc
        | cons q r =>
          have hc' : c ∈ p ++ (TL.tl (", " : Str) ++ TL.joinL (TL.tl (", " : Str)) (q :: r)) := hc
          rcases List.mem_append.mp hc' with w | w
          · exact h p List.mem_cons_self c w
          · rcases List.mem_append.mp w with w | w
            · rw [tl_comma] at w
              simp only [List.mem_cons, List.not_mem_nil, or_false] at w
              omega
            · exact ih (fun p hp => h p (List.mem_cons_of_mem _ hp)) c w
    refine key _ fun p hp c hc => ?_
    obtain ⟨p', hp', rfl⟩ := List.mem_map.mp hp
    obtain ⟨i, hi, _, rfl⟩ := parts_all hp'
    unfold partAt at hc
    rw [tl_part] at hc
    rcases List.mem_append.mp hc with w | w
    · have : ¬ (c < 48 ∨ 57 < c) := fun q => TL.numL_free q w
      omega
    · rcases List.mem_cons.mp w with w | w
      · omega
      · have := g.small _ (name_at hi).2 _ w
        omega
theorem show_colon {xs : List Str} {cs : List Int} (g : GoodN xs) : 58 ∉ TL.tl (showM xs cs) := fun z => by
  have := show_signs g _ z
  omega
theorem many_part {xs : List Str} (g : GoodN xs) (c : List Int) (b : Str) : Txt.partition (showM xs c ++ (": " : Str) ++ b) (": " : Str) = (showM xs c, (": " : Str), b) := TL.partition_app tl_colon (show_colon g)
theorem add_part (n : Nat) (b : Str) : Txt.partition (numS n ++ (": " : Str) ++ b) (": " : Str) = (numS n, (": " : Str), b) := TL.partition_app tl_colon (by rw [tl_numS]; exact TL.numL_free (by decide))
theorem tier_part (t : Int × Int) : Txt.partition (tierS t) (" for " : Str) = (numS t.1.toNat, (" for " : Str), numS t.2.toNat) := TL.partition_app tl_for (by rw [tl_numS]; exact TL.numL_free (by decide))
theorem tier_comma (t : Int × Int) : 44 ∉ TL.tl (tierS t) := fun z => by
  unfold tierS at z
  rw [TL.tl_append, TL.tl_append, tl_numS, tl_numS, tl_for] at z
  rcases List.mem_append.mp z with z | z
  · rcases List.mem_append.mp z with z | z
    · exact TL.numL_free (by decide) z
    · revert z
      decide
  · exact TL.numL_free (by decide) z
theorem tiers_split {ts : List (Int × Int)} (h : ts ≠ []) : Txt.split (tiersS ts) (", " : Str) = ts.map tierS := by
  unfold tiersS
  rw [← TL.join_eq]
  refine TL.split_join tl_comma (by decide +kernel) (fun e => h (List.map_eq_nil_iff.mp e)) fun p hp => ?_
  obtain ⟨t, _, rfl⟩ := List.mem_map.mp hp
  exact tier_comma t
/-- startswith, removeprefix -/
theorem starts_iff (x y : Str) (hy : TL.tl y ≠ []) : Txt.startswith x y = TL.pre (TL.tl y) (TL.tl x) := by
  have h := TL.at_iff (x := x) hy 0
  rw [List.drop_zero] at h
  have e : Txt.startswith x y = true ↔ StrLaws.At x y x.length 0 := by
    unfold Txt.startswith StrLaws.At
    rw [Bool.and_eq_true, decide_eq_true_eq]
  rw [Bool.eq_iff_iff, e, h]
theorem starts_app (y b : Str) (hy : TL.tl y ≠ []) : Txt.startswith (y ++ b) y = true := by
  rw [starts_iff _ _ hy, TL.tl_append]
  exact TL.pre_self _ _
theorem starts_other {x y : Str} {c d : Nat} {r q : List Nat} (hx : TL.tl x = c :: r) (hy : TL.tl y = d :: q) (h : c ≠ d) : Txt.startswith x y = false := by
  rw [starts_iff _ _ (by rw [hy]; exact fun z => nomatch z), hx, hy]
  exact TL.pre_of_head _ _ h
theorem remove_app (y b : Str) (hy : TL.tl y ≠ []) : Txt.removeprefix (y ++ b) y = b := by
  have h : Txt.startswith (y ++ b) y = true := starts_app y b hy
  unfold Txt.startswith at h
  rw [Bool.and_eq_true] at h
  unfold Txt.removeprefix
  rw [if_pos h.2]
  show (if ((y ++ b).length - y.length == (y ++ b).length) = true then y ++ b else Builtin.Str.strSub (y ++ b) y.length (y ++ b).length) = b
  have l1 : 0 < y.length := by rw [TL.len_tl]; exact List.length_pos_iff.mpr hy
  rw [if_neg (by rw [str_len_app, beq_iff_eq]; omega)]
  refine TL.ext_tl ?_
  rw [TL.tl_strSub_end, TL.tl_append, TL.len_tl]
  exact List.drop_left
/-! ### show_offer, show_shop -/
abbrev s_show_offer : Stmt := topS 18
abbrev N_show_offer : List Str := ["names", "offer", "content", "tiers", "begin", "price"]
theorem sc_show_offer : FnScope N_show_offer ["names", "offer"] (defScope s_show_offer) := ⟨rfl, rfl, rfl, by decide +kernel, rfl, by decide +kernel, by decide +kernel⟩

abbrev s_show_shop : Stmt := topS 19
abbrev N_show_shop : List Str := ["names", "shop", "offer"]
theorem sc_show_shop : FnScope N_show_shop ["names", "shop"] (defScope s_show_shop) := ⟨rfl, rfl, rfl, by decide +kernel, rfl, by decide +kernel, by decide +kernel⟩

theorem log12 {n : Nat} (h : n < 1000000000000) : ((n : Nat) : Int).natAbs.log2 < 1920 := by
  have h1 : n < 2 ^ 40 := Nat.lt_trans h (by decide)
  rw [Int.natAbs_natCast]
  by_cases z : n = 0
  · rw [z]
    decide
  · have := (Nat.log2_lt z).mpr h1
    omega
theorem num12 {n : Nat} (h : n < 1000000000000) : (numS n).length ≤ 12 := by
  rw [numS_len]
  exact TL.numL_len (by decide) (by omega)
theorem show_len {xs : List Str} {cs : List Int} (g : GoodN xs) (h : FitC xs cs) : (showM xs cs).length ≤ 48 := by
  unfold showM
  by_cases z : partsM xs cs xs.length = []
  · rw [if_pos z]
    decide +kernel
  · rw [if_neg z]
    exact joined_len g h
theorem FitO.fit {xs : List Str} {o : Ofr} (h : FitO xs.length o) : FitC xs o.cont := ⟨h.cont.1, h.cont.2.1⟩
theorem tier_len {t : Int × Int} (h1 : 0 ≤ t.1) (h2 : t.1 ≤ 12) (h3 : 0 ≤ t.2) (h4 : t.2 < 1000000000000) : (tierS t).length ≤ 20 := by
  have a : (numS t.1.toNat).length ≤ 2 := by
    rw [numS_len]
    exact TL.numL_len (by decide) (by omega)
  have b := num12 (n := t.2.toNat) (by omega)
  unfold tierS
  rw [str_len_app, str_len_app, for_len]
  omega
theorem join_len20 (y : Str) : ∀ ps : List Str, (∀ p ∈ ps, p.length ≤ 20) → (Str.join y ps).length ≤ ps.length * (20 + y.length)
  | [], _ => Nat.zero_le _
  | [p], h => by
    have := h p List.mem_cons_self
    show p.length ≤ (0 + 1) * (20 + y.length)
    omega
  | p :: q :: r, h => by
    have h1 := h p List.mem_cons_self
    have h2 := join_len20 y (q :: r) fun z hz => h z (List.mem_cons_of_mem _ hz)
    show (p ++ y ++ Str.join y (q :: r)).length ≤ ((q :: r).length + 1) * (20 + y.length)
    rw [str_len_app, str_len_app, Nat.add_mul]
    omega
theorem sum20 {ps : List Str} (h : ∀ p ∈ ps, p.length ≤ 20) : (ps.map (·.length)).sum ≤ ps.length * 20 := by
  induction ps with
  | nil => exact Nat.le_refl _
  | cons p r ih =>
    have h1 := h p List.mem_cons_self
    have h2 := ih fun z hz => h z (List.mem_cons_of_mem _ hz)
    rw [List.map_cons, List.sum_cons, List.length_cons]
    omega
/-- what is told of tiers -/
structure FitT (ts : List (Int × Int)) : Prop where
  pos : 1 ≤ ts.length
  few : ts.length ≤ 4
  each : ∀ t ∈ ts, 0 ≤ t.1 ∧ t.1 ≤ 12 ∧ 0 ≤ t.2 ∧ t.2 < 1000000000000
theorem FitT.of {ts : List (Int × Int)} (g : GoodT ts) (p : PriceT ts) : FitT ts := ⟨g.pos, g.few, fun t ht => ⟨by have := g.ge1 t ht; omega, g.most t ht, (p t ht).1, (p t ht).2⟩⟩
theorem FitT.lens {ts : List (Int × Int)} (h : FitT ts) : ∀ p ∈ ts.map tierS, p.length ≤ 20 := fun p hp => by
  obtain ⟨t, ht, rfl⟩ := List.mem_map.mp hp
  obtain ⟨h1, h2, h3, h4⟩ := h.each t ht
  exact tier_len h1 h2 h3 h4
theorem FitT.len {ts : List (Int × Int)} (h : FitT ts) : (tiersS ts).length ≤ 88 := by
  have h1 := join_len20 (", " : Str) _ h.lens
  have := h.few
  rw [List.length_map, comma_len] at h1
  unfold tiersS
  omega
/-- an offer that can be written -/
def TellO (xs : List Str) : Ofr → Prop
  | .pack c p => FitC xs c ∧ 0 ≤ p ∧ p < 1000000000000
  | .many c ts => FitC xs c ∧ FitT ts
  | .add c p k => FitC xs c ∧ 0 ≤ p ∧ p < 1000000000000 ∧ 0 ≤ k ∧ k < 100
theorem tell_of {xs : List Str} {os : List Ofr} {i : Nat} : ∀ {o : Ofr}, i < 100 → GoodO os i o → FitO xs.length o → TellO xs o
  | .pack c p, _, _, f => ⟨f.fit, f.2.2.1, f.2.2.2⟩
  | .many c ts, _, g, f => ⟨f.fit, FitT.of g f.2.2⟩
  | .add c p k, hi, ⟨j, e, hj, _⟩, f => ⟨f.fit, f.2.2.1, f.2.2.2, by omega, by omega⟩
theorem TellO.cont {xs : List Str} : ∀ {o : Ofr}, TellO xs o → FitC xs o.cont
  | .pack _ _, h => h.1
  | .many _ _, h => h.1
  | .add _ _ _, h => h.1
theorem TellO.len {xs : List Str} (g : GoodN xs) : ∀ {o : Ofr}, TellO xs o → (offerS xs o).length ≤ 200
  | .pack c p, h => by
    have a := show_len g h.1
    have b := num12 (n := p.toNat) (by have := h.2.1; have := h.2.2; omega)
    show (soldS xs c p).length ≤ 200
    unfold soldS
    rw [str_len_app, str_len_app, for_len]
    omega
  | .many c ts, h => by
    have a := show_len g h.1
    have b := h.2.len
    show (("many " : Str) ++ (showM xs c ++ (": " : Str) ++ tiersS ts)).length ≤ 200
    rw [str_len_app, str_len_app, str_len_app, colon_len, word5_len.1]
    omega
  | .add c p k, h => by
    have a := show_len g h.1
    have b := num12 (n := p.toNat) (by have := h.2.1; have := h.2.2.1; omega)
    have d := num12 (n := k.toNat) (by have := h.2.2.2.2; omega)
    show (("with " : Str) ++ (numS k.toNat ++ (": " : Str) ++ soldS xs c p)).length ≤ 200
    unfold soldS
    rw [str_len_app, str_len_app, str_len_app, str_len_app, str_len_app, colon_len, word5_len.2, for_len]
    omega
def sp_show_offer : Sp := fun vs H Q _ => ∃ (a v : Addr) (xs : List Str) (o : Ofr), vs = [.ref a, .ref v] ∧ H a = some (LS xs) ∧ OfrAt H v o ∧ GoodN xs ∧ TellO xs o ∧ ∀ H', Same H H' → Q (.str (offerS xs o)) H'
def sp_show_shop (T : List Addr) : Sp := fun vs H Q _ => ∃ (a s : Addr) (xs : List Str) (os : List Ofr), vs = [.ref a, .ref s] ∧ H a = some (LS xs) ∧ ShopAt H s os ∧ Good os ∧ GoodN xs ∧ (∀ o ∈ os, TellO xs o) ∧ Tb T H ∧
  ∀ H' p, Ext T H H' → H p = none → H' p = some (LS (os.map (offerS xs))) → Q (.ref p) H'
section
variable {P : Program} {w : World} {K : PySem.W.Frag} {mg : Str → Option Value} {base : Heap} {T : List Addr}
theorem ok_show_offer {f f1 : Addr} {fd fd1 : FuncData} {k : Nat} (M : Names mg) (D : Def K mg "show_offer" s_show_offer ["names", "offer"] f fd) (D_show_content : Def K mg "show_content" s_show_content ["names", "content"] f1 fd1) : FnOk P w K mg base CX0 (k + 2) f fd ["names", "offer"] sp_show_offer := by
  have G_show_content : FnOk P w K mg base CX0 (k + 1) f1 fd1 ["names", "content"] (sp_show_content K) := ok_show_content M D_show_content
  refine D.F.ok sc_show_offer (fun vs H Q E h => ?_) (fun cdv A outer s H vs Q E hr h => ?_)
  · obtain ⟨a, v, xs, o, rfl, _⟩ := h
    rfl
  · obtain ⟨a, v, xs, o, rfl, ha, ho, g, tl, q⟩ := h
    have sl := show_len g tl.cont
    refine ⟨_, (pss_cons (ps_set (i := 2) sc_show_offer.nd rfl (Or.inl rfl) (pe_call G_show_content hr (by rfl) D_show_content.g D_show_content.F.kp D_show_content.b .nil pass0 (pa_cons (pv 0) (pa_cons (pe_ix ix_tup (pv 1) pe_int (fun _ _ => rfl)) pa_nil))))
  (pss_cons (ps_if (pt_cmpR op_eq (pe_ix ix_tup (pv 1) pe_int (fun _ _ => rfl)) pe_str (nomark _))
   (pss_cons (ps_set (i := 3) sc_show_offer.nd rfl (Or.inl rfl) (pe_join pe_str (pe_lc (own := [("begin", 4), ("price", 5)]) (by rfl) sc_show_offer.nd (pi_list (pe_ix ix_tup (pv 1) pe_int (fun _ _ => rfl))) (blkOk_by (own := [("begin", 4), ("price", 5)]) (N := N_show_offer) (sc := defScope s_show_offer) (by decide +kernel)) (fun _ _ _ _ _ => (pg_tupK (K := K) (n := 2) rfl rfl (pgs_cons (pg_name (i := 4) sc_show_offer.nd rfl (Or.inl rfl)) (pgs_cons (pg_name (i := 5) sc_show_offer.nd rfl (Or.inl rfl)) pgs_nil)))) (fun _ _ _ _ _ => pts_nil) (fun _ _ _ _ _ => (pe_joinedD (.cons (pe_fmt (pv 4)) (.cons pe_str (.cons (pe_fmt (pv 5)) .nil))))))))
  (pss_one (ps_ret (pe_joinedD (.cons pe_str (.cons (pe_fmt (pv 2)) (.cons pe_str (.cons (pe_fmt (pv 3)) .nil))))))))
   pss_nil)
  (pss_cons (ps_if (pt_cmpR op_eq (pe_ix ix_tup (pv 1) pe_int (fun _ _ => rfl)) pe_str (nomark _))
   (pss_one (ps_ret (pe_joinedD (.cons pe_str (.cons (pe_fmt (pe_ix ix_tup (pv 1) pe_int (fun _ _ => rfl))) (.cons pe_str (.cons (pe_fmt (pv 2)) (.cons pe_str (.cons (pe_fmt (pe_ix ix_tup (pv 1) pe_int (fun _ _ => rfl))) .nil)))))))))
   pss_nil)
  (pss_one (ps_ret (pe_joinedD (.cons (pe_fmt (pv 2)) (.cons pe_str (.cons (pe_fmt (pe_ix ix_tup (pv 1) pe_int (fun _ _ => rfl))) .nil))))))))), ?_⟩
    cases o with
    | pack c p =>
      obtain ⟨b, hv, hb⟩ := ho
      obtain ⟨fc, p0, p1⟩ := tl
      obtain ⟨n, rfl⟩ := Int.eq_ofNat_of_zero_le p0
      have hn : n < 1000000000000 := by omega
      have nl := num12 hn
      refine ⟨_, rfl, _, rfl, v, _, _, _, rfl, rfl, SqT.of hv, atI_nat (j := 1) rfl, a, b, xs, c, rfl, ha, hb, g, fc, fun H1 s1 => ?_⟩
      have hv1 := s1 _ _ hv
      refine ⟨_, rfl, v, _, _, _, rfl, rfl, SqT.of hv1, atI_nat (j := 0) rfl, rfl, false, rfl, ?_⟩
      refine ⟨_, rfl, v, _, _, _, rfl, rfl, SqT.of hv1, atI_nat (j := 0) rfl, rfl, false, rfl, ?_⟩
      have sl' : (showM xs c).length ≤ 48 := sl
      have e : offerS xs (.pack c (n : Int)) = Str.empty ++ showM xs c ++ (" for " : Str) ++ numS n := by rw [str_nil_app]; rfl
      rw [e] at q
      exact ⟨_, rfl, .inl ⟨_, rfl, szL (by omega), _, rfl, szL (by rw [str_nil_app]; omega), _, rfl, szL (by rw [str_nil_app, str_len_app, for_len]; omega), _, rfl, v, _, _, _, rfl, rfl, SqT.of hv1, atI_nat (j := 2) rfl, .inr ⟨_, rfl, log12 hn, _, rfl, szL (by rw [str_nil_app, str_len_app, str_len_app, for_len]; show _ + _ + (numS n).length ≤ _; omega), q H1 s1⟩⟩⟩
    | add c p k =>
      obtain ⟨b, hv, hb⟩ := ho
      obtain ⟨fc, p0, p1, k0, k1⟩ := tl
      obtain ⟨n, rfl⟩ := Int.eq_ofNat_of_zero_le p0
      obtain ⟨j, rfl⟩ := Int.eq_ofNat_of_zero_le k0
      have hn : n < 1000000000000 := by omega
      have hj : j < 1000000000000 := by omega
      have nl := num12 hn
      have jl := num12 hj
      refine ⟨_, rfl, _, rfl, v, _, _, _, rfl, rfl, SqT.of hv, atI_nat (j := 1) rfl, a, b, xs, c, rfl, ha, hb, g, fc, fun H1 s1 => ?_⟩
      have hv1 := s1 _ _ hv
      refine ⟨_, rfl, v, _, _, _, rfl, rfl, SqT.of hv1, atI_nat (j := 0) rfl, rfl, false, rfl, ?_⟩
      refine ⟨_, rfl, v, _, _, _, rfl, rfl, SqT.of hv1, atI_nat (j := 0) rfl, rfl, true, rfl, ?_⟩
      have sl' : (showM xs c).length ≤ 48 := sl
      have e : offerS xs (.add c (n : Int) (j : Int)) = Str.empty ++ ("with " : Str) ++ numS j ++ (": " : Str) ++ showM xs c ++ (" for " : Str) ++ numS n := by
        rw [str_nil_app]
        refine TL.ext_tl ?_
        show TL.tl (("with " : Str) ++ (numS j ++ (": " : Str) ++ (showM xs c ++ (" for " : Str) ++ numS n))) = _
        simp only [TL.tl_append, List.append_assoc]
      rw [e] at q
      have w5 := word5_len.2
      refine ⟨_, rfl, szL (by rw [str_nil_app]; omega), _, rfl, v, _, _, _, rfl, rfl, SqT.of hv1, atI_nat (j := 3) rfl, .inr ⟨_, rfl, log12 hj, _, rfl, szL (by rw [str_nil_app, str_len_app]; show _ + (numS j).length ≤ _; omega), _, rfl, szL (by rw [str_nil_app, str_len_app, str_len_app, colon_len]; show _ + (numS j).length + _ ≤ _; omega), _, rfl, .inl ⟨_, rfl, szL (by omega), _, rfl, szL (by rw [str_nil_app, str_len_app, str_len_app, str_len_app, colon_len]; show _ + (numS j).length + _ + _ ≤ _; omega), _, rfl, szL (by rw [str_nil_app, str_len_app, str_len_app, str_len_app, str_len_app, colon_len, for_len]; show _ + (numS j).length + _ + _ + _ ≤ _; omega), _, rfl, v, _, _, _, rfl, rfl, SqT.of hv1, atI_nat (j := 2) rfl, .inr ⟨_, rfl, log12 hn, _, rfl, szL (by rw [str_nil_app, str_len_app, str_len_app, str_len_app, str_len_app, str_len_app, colon_len, for_len]; show _ + (numS j).length + _ + _ + _ + (numS n).length ≤ _; omega), q H1 s1⟩⟩⟩⟩
    | many c ts =>
      obtain ⟨b, t, hv, hb, us, u1, u2, u3⟩ := ho
      obtain ⟨fc, ft⟩ := tl
      have few := ft.few
      refine ⟨_, rfl, _, rfl, v, _, _, _, rfl, rfl, SqT.of hv, atI_nat (j := 1) rfl, a, b, xs, c, rfl, ha, hb, g, fc, fun H1 s1 => ?_⟩
      have hv1 := s1 _ _ hv
      have u1' := s1 _ _ u1
      refine ⟨_, rfl, v, _, _, _, rfl, rfl, SqT.of hv1, atI_nat (j := 0) rfl, rfl, true, rfl, ?_⟩
      have sl' : (showM xs c).length ≤ 48 := sl
      refine ⟨⟨_, rfl⟩, _, rfl, v, _, _, _, rfl, rfl, SqT.of hv1, atI_nat (j := 2) rfl, t, rfl, ⟨_, SqL.of u1'⟩, fun B nB => lc_list (xs := us.map V.ref) (fun i H' => Same H1 H' ∧ H' B = some (LS ((ts.take i).map tierS))) ⟨same_upd nB, upd_same⟩ (fun i H' _ hp => SqL.of (hp.1 _ _ u1')) (fun i x H2 hx hp => ?_) (fun H2 hp => ?_)⟩
      · obtain ⟨s2, hB⟩ := hp
        rw [List.getElem?_map] at hx
        cases hu : us[i]? with
        | none => rw [hu] at hx; cases hx
        | some u =>
          rw [hu] at hx
          cases Option.some.inj hx
          have hi : i < ts.length := by
            have := (List.getElem?_eq_some_iff.mp hu).1
            omega
          have gt := List.getElem?_eq_getElem hi
          obtain ⟨t1, t2, t3, t4⟩ := ft.each _ (List.getElem_mem hi)
          have tlen := tier_len t1 t2 t3 t4
          have hu2 := s2 _ _ (s1 _ _ (u3 i u _ hu gt))
          generalize ts[i] = tt at gt t1 t2 t3 t4 tlen hu2
          obtain ⟨b1, p1⟩ := tt
          obtain ⟨b0, rfl⟩ := Int.eq_ofNat_of_zero_le t1
          obtain ⟨p0, rfl⟩ := Int.eq_ofNat_of_zero_le t3
          have l1 : b0 < 1000000000000 := by have : ((b0 : Nat) : Int) ≤ 12 := t2; omega
          have l2 : p0 < 1000000000000 := by have : ((p0 : Nat) : Int) < 1000000000000 := t4; omega
          have n1 := num12 l1
          have n2 := num12 l2
          refine ⟨u, _, rfl, SqT.of hu2, rfl, _, _, rfl, _, _, rfl, rfl, rfl, _, rfl, .inr ⟨_, rfl, log12 l1, _, rfl, szL (by rw [str_nil_app]; show (numS b0).length ≤ _; omega), _, rfl, szL (by rw [str_nil_app, str_len_app, for_len]; show (numS b0).length + _ ≤ _; omega), _, rfl, .inr ⟨_, rfl, log12 l2, _, rfl, szL (by rw [str_nil_app, str_len_app, str_len_app, for_len]; show (numS b0).length + _ + (numS p0).length ≤ _; omega), _, hB, szL' (by rw [List.length_map, List.length_map, List.length_take]; omega), sm_new s2 nB, ?_⟩⟩⟩
          rw [upd_same, ls_app, take_succ_at gt, List.map_append, str_nil_app]
          rfl
      · obtain ⟨s2, hB⟩ := hp
        rw [List.length_map, u2, List.take_length] at hB
        have sm := sum20 ft.lens
        have tln := ft.len
        rw [List.length_map] at sm
        refine ⟨_, B, _, rfl, rfl, .inl (SqL.of hB), by rw [comma_len, List.length_map]; omega, ?_⟩
        rw [TL.join_eq]
        have e : offerS xs (.many c ts) = Str.empty ++ ("many " : Str) ++ showM xs c ++ (": " : Str) ++ tiersS ts := by
          rw [str_nil_app]
          refine TL.ext_tl ?_
          show TL.tl (("many " : Str) ++ (showM xs c ++ (": " : Str) ++ tiersS ts)) = _
          simp only [TL.tl_append, List.append_assoc]
        rw [e] at q
        have w5 := word5_len.1
        have tln' : (Str.join (", " : Str) (ts.map tierS)).length ≤ 88 := tln
        exact ⟨_, rfl, szL (by rw [str_nil_app]; omega), _, rfl, .inl ⟨_, rfl, szL (by omega), _, rfl, szL (by rw [str_nil_app, str_len_app]; omega), _, rfl, szL (by rw [str_nil_app, str_len_app, str_len_app, colon_len]; omega), _, rfl, .inl ⟨_, rfl, szL (by omega), _, rfl, szL (by rw [str_nil_app, str_len_app, str_len_app, str_len_app, colon_len]; omega), q H2 (s1.trans s2)⟩⟩⟩
theorem ok_show_shop {f f1 f2 f3 f4 f5 f6 c t : Addr} {fd fd1 fd2 fd3 fd4 fd5 fd6 : FuncData} {k : Nat} (M : Names mg) (D : Def K mg "show_shop" s_show_shop ["names", "shop"] f fd) (D_show_offer : Def K mg "show_offer" s_show_offer ["names", "offer"] f1 fd1) (D_show_content : Def K mg "show_content" s_show_content ["names", "content"] f2 fd2)
    (D_look : Def K mg "look" s_look ["shop"] f3 fd3) (D_can_stand : Def K mg "can_stand" s_can_stand ["shop", "at"] f4 fd4) (D_names_pack : Def K mg "names_pack" s_names_pack ["shop", "at"] f5 fd5) (D_good_tiers : Def K mg "good_tiers" s_good_tiers ["tiers"] f6 fd6) (hc : fd6.code = .ref c) (TB : GxR.TabB base mg c t) (ht : t ∈ T) : FnOk P w K mg base CX0 (k + 4) f fd ["names", "shop"] (sp_show_shop T) := by
  have G_look : FnOk P w K mg base CX0 (k + 3) f3 fd3 ["shop"] (sp_look T) := ok_look M D_look D_can_stand D_names_pack D_good_tiers hc TB ht
  have G_show_offer : FnOk P w K mg base CX0 (k + 3) f1 fd1 ["names", "offer"] sp_show_offer := ok_show_offer M D_show_offer D_show_content
  refine D.F.ok sc_show_shop (fun vs H Q E h => ?_) (fun cdv A outer s H vs Q E hr h => ?_)
  · obtain ⟨a, s, xs, os, rfl, _⟩ := h
    rfl
  · obtain ⟨a, s, xs, os, rfl, ha, hS, gd, g, tl, hT, q⟩ := h
    refine ⟨_, (pss_cons (ps_expr (pe_call G_look hr (by rfl) D_look.g D_look.F.kp D_look.b .nil pass0 (pa_cons (pv 1) pa_nil)))
  (pss_one (ps_ret (pe_lc (own := [("offer", 2)]) (by rfl) sc_show_shop.nd (pi_list (pv 1)) (blkOk_by (own := [("offer", 2)]) (N := N_show_shop) (sc := defScope s_show_shop) (by decide +kernel)) (fun _ _ _ _ _ => (pg_name (i := 2) sc_show_shop.nd rfl (Or.inl rfl))) (fun _ _ _ _ _ => pts_nil) (fun _ _ _ _ _ => (pe_call G_show_offer hr (by rfl) D_show_offer.g D_show_offer.F.kp D_show_offer.b .nil pass0 (pa_cons (pv 0) (pa_cons (pv 2) pa_nil)))))))), ?_⟩
    refine ⟨_, rfl, s, os, rfl, hS, gd, hT, fun H1 E1 => ?_⟩
    obtain ⟨vs, h1, h2, h3⟩ := hS.ext E1
    have h8 := gd.1
    refine ⟨_, rfl, s, rfl, ⟨_, SqL.of h1⟩, fun B nB => lc_list (xs := vs.map V.ref) (fun i H' => Same H1 H' ∧ H' B = some (LS ((os.take i).map (offerS xs)))) ⟨same_upd nB, upd_same⟩ (fun i H' _ hp => SqL.of (hp.1 _ _ h1)) (fun i x H2 hx hp => ?_) (fun H2 hp => ?_)⟩
    · obtain ⟨s2, hB⟩ := hp
      have hi : i < os.length := by
        have := (List.getElem?_eq_some_iff.mp hx).1
        rw [List.length_map] at this
        omega
      obtain ⟨v, o, g1, g2, g3⟩ := ShopAt.get (H := H1) (a := s) h2 hi
      have ex : x = .ref v := Option.some.inj (hx.symm.trans g3)
      subst ex
      refine ⟨rfl, _, rfl, _, rfl, a, v, xs, o, rfl, s2 _ _ (E1.lst ha), (h3 i v o g1 g2).same s2, g, tl o (List.mem_of_getElem? g2), fun H3 s3 => ?_⟩
      refine ⟨_, s3 _ _ hB, szL' (by rw [List.length_map, List.length_map, List.length_take]; omega), sm_new (s2.trans s3) nB, ?_⟩
      rw [upd_same, ls_app, take_succ_at g2, List.map_append]
      rfl
    · obtain ⟨s2, hB⟩ := hp
      rw [List.length_map, h2, List.take_length] at hB
      exact q H2 B (E1.trans (.same s2 E1.t1)) (E1.free _ nB) hB
end
/-! ### read_goods, read_sold, read_tier, read_many, read_add, read_offer, read_shop -/
abbrev s_read_goods : Stmt := topS 25
abbrev N_read_goods : List Str := ["names", "text", "content"]
theorem sc_read_goods : FnScope N_read_goods ["names", "text"] (defScope s_read_goods) := ⟨rfl, rfl, rfl, by decide +kernel, rfl, by decide +kernel, by decide +kernel⟩

abbrev s_read_sold : Stmt := topS 26
abbrev N_read_sold : List Str := ["names", "text", "goods", "word", "price"]
theorem sc_read_sold : FnScope N_read_sold ["names", "text"] (defScope s_read_sold) := ⟨rfl, rfl, rfl, by decide +kernel, rfl, by decide +kernel, by decide +kernel⟩

abbrev s_read_tier : Stmt := topS 27
abbrev N_read_tier : List Str := ["text", "begin", "word", "price"]
theorem sc_read_tier : FnScope N_read_tier ["text"] (defScope s_read_tier) := ⟨rfl, rfl, rfl, by decide +kernel, rfl, by decide +kernel, by decide +kernel⟩

abbrev s_read_many : Stmt := topS 28
abbrev N_read_many : List Str := ["names", "text", "parts", "goods", "colon", "tiers", "part"]
theorem sc_read_many : FnScope N_read_many ["names", "text"] (defScope s_read_many) := ⟨rfl, rfl, rfl, by decide +kernel, rfl, by decide +kernel, by decide +kernel⟩

abbrev s_read_add : Stmt := topS 29
abbrev N_read_add : List Str := ["names", "text", "place", "colon", "sold", "content", "price"]
theorem sc_read_add : FnScope N_read_add ["names", "text"] (defScope s_read_add) := ⟨rfl, rfl, rfl, by decide +kernel, rfl, by decide +kernel, by decide +kernel⟩

abbrev s_read_offer : Stmt := topS 30
abbrev N_read_offer : List Str := ["names", "text", "content", "price"]
theorem sc_read_offer : FnScope N_read_offer ["names", "text"] (defScope s_read_offer) := ⟨rfl, rfl, rfl, by decide +kernel, rfl, by decide +kernel, by decide +kernel⟩

abbrev s_read_shop : Stmt := topS 31
abbrev N_read_shop : List Str := ["names", "rows", "shop", "at", "row"]
theorem sc_read_shop : FnScope N_read_shop ["names", "rows"] (defScope s_read_shop) := ⟨rfl, rfl, rfl, by decide +kernel, rfl, by decide +kernel, by decide +kernel⟩

section
variable {X : Cx}
/-- x.rpartition(sep) -/
theorem mt_rpartition : MtR X "str.rpartition" (fun x xs H Q => ∃ a b, x = .str a ∧ xs = [.str b] ∧ (b.length == 0) = false ∧ a.length ≤ sizeLine ∧
    ∀ p, H p = none → Q (.ref p) (upd H p (.tup [.str (Txt.rpartition a b).1, .str (Txt.rpartition a b).2.1, .str (Txt.rpartition a b).2.2]))) := by
  intro pins s σ H x xs v us Q I rx rs h
  obtain ⟨a, b, rfl, rfl, hb, hz, h⟩ := h
  obtain ⟨t, rfl⟩ := rx
  cases rs with
  | cons r1 rs =>
    cases rs
    obtain ⟨u, rfl⟩ := r1
    refine call_meets F.slot_str_rpartition (typeIs_str _ _ _) F.entry_str_rpartition (F.args_str_rpartition_2 _ _) (meets_str_rpartition a b t u hb hz) ?_
    unfold Txt.rpartition at h
    revert h
    cases Builtin.Str.lastOccurrence a b 0 a.length with
    | none => intro h; exact laid_parts I h
    | some i => intro h; exact laid_parts I h
end
/-- contents of an offer: not all noughts, with at most 400 lesser ones -/
def Goods (xs : List Str) (c : List Int) : Prop := FitC xs c ∧ boundM c ≤ 400 ∧ ∃ x ∈ c, 0 < x
theorem Goods.any {xs : List Str} {c : List Int} (h : Goods xs c) : anyI c = true := by
  obtain ⟨x, hx, hp⟩ := h.2.2
  unfold anyI
  rw [List.any_eq_true]
  exact ⟨x, hx, by simp only [bne_iff_ne, ne_eq]; omega⟩
theorem Goods.parts {xs : List Str} {c : List Int} (h : Goods xs c) : partsM xs c xs.length ≠ [] := fun z => by
  obtain ⟨x, hx, hp⟩ := h.2.2
  have := parts_nil h.1 z
  rw [this] at hx
  have := (List.mem_replicate.mp hx).2
  omega
/-- the text begins with a figure -/
theorem Goods.head {xs : List Str} {c : List Int} (h : Goods xs c) : ∃ d r, TL.tl (showM xs c) = d :: r ∧ 48 ≤ d ∧ d ≤ 57 := by
  unfold showM
  rw [if_neg h.parts, TL.tl_join]
  cases e : partsM xs c xs.length with
  | nil => exact absurd e h.parts
  | cons p q =>
    obtain ⟨i, _, _, rfl⟩ := parts_all (xs := xs) (cs := c) (p := p) (by rw [e]; exact List.mem_cons_self)
    have ep : TL.tl (partAt xs c i) = TL.numL (c.getD i 0).toNat ++ 32 :: TL.tl (xs.getD i Str.empty) := tl_part _ _
    cases en : TL.numL (c.getD i 0).toNat with
    | nil => exact absurd en (TL.numL_ne _)
    | cons d r =>
      have hd : ¬ (d < 48 ∨ 57 < d) := fun z => TL.numL_free z (n := (c.getD i 0).toNat) (by rw [en]; exact List.mem_cons_self)
      rw [en] at ep
      rw [List.map_cons, ep]
      cases q with
      | nil => exact ⟨d, _, rfl, by omega, by omega⟩
      | cons q1 q2 => exact ⟨d, _, rfl, by omega, by omega⟩
def sp_read_goods (T : List Addr) : Sp := fun vs H Q _ => ∃ (a : Addr) (xs : List Str) (c : List Int), vs = [.ref a, .str (showM xs c)] ∧ H a = some (LS xs) ∧ GoodN xs ∧ Goods xs c ∧ Tb T H ∧
  ∀ H' p, Ext T H H' → H p = none → H' p = some (LI c) → Q (.ref p) H'
def sp_read_sold (T : List Addr) : Sp := fun vs H Q _ => ∃ (a : Addr) (xs : List Str) (c : List Int) (p : Int), vs = [.ref a, .str (soldS xs c p)] ∧ H a = some (LS xs) ∧ GoodN xs ∧ Goods xs c ∧ 0 ≤ p ∧ p < 1000000000000 ∧ Tb T H ∧
  ∀ H' t b, Ext T H H' → H b = none → H' t = some (.tup [.ref b, .int p]) → H' b = some (LI c) → Q (.ref t) H'
def sp_read_tier (T : List Addr) : Sp := fun vs H Q _ => ∃ (t : Int × Int), vs = [.str (tierS t)] ∧ 0 ≤ t.1 ∧ t.1 ≤ 12 ∧ 0 ≤ t.2 ∧ t.2 < 1000000000000 ∧ Tb T H ∧
  ∀ H' u, Ext T H H' → H u = none → H' u = some (.tup [.int t.1, .int t.2]) → Q (.ref u) H'
/-- an offer whose lists are new: S are its lists -/
def OwnO (H : Hp) (v : Addr) : Ofr → List Addr → Prop
  | .pack c p, S => ∃ b, S = [b] ∧ H v = some (.tup [.str "pack", .ref b, .int p]) ∧ H b = some (LI c)
  | .many c ts, S => ∃ b t, S = [b, t] ∧ H v = some (.tup [.str "many", .ref b, .ref t]) ∧ H b = some (LI c) ∧ TiersAt H t ts
  | .add c p k, S => ∃ b, S = [b] ∧ H v = some (.tup [.str "add", .ref b, .int p, .int k]) ∧ H b = some (LI c)
theorem OwnO.at {H : Hp} {v : Addr} : ∀ {o : Ofr} {S : List Addr}, OwnO H v o S → OfrAt H v o
  | .pack _ _, _, ⟨b, _, h1, h2⟩ => ⟨b, h1, h2⟩
  | .many _ _, _, ⟨b, t, _, h1, h2, h3⟩ => ⟨b, t, h1, h2, h3⟩
  | .add _ _ _, _, ⟨b, _, h1, h2⟩ => ⟨b, h1, h2⟩
theorem OwnO.ext {T : List Addr} {H H1 : Hp} (e : Ext T H H1) {v : Addr} : ∀ {o : Ofr} {S : List Addr}, OwnO H v o S → OwnO H1 v o S
  | .pack _ _, _, ⟨b, h0, h1, h2⟩ => ⟨b, h0, e.tup h1, e.lst h2⟩
  | .many _ _, _, ⟨b, t, h0, h1, h2, h3⟩ => ⟨b, t, h0, e.tup h1, e.lst h2, h3.ext e⟩
  | .add _ _ _, _, ⟨b, h0, h1, h2⟩ => ⟨b, h0, e.tup h1, e.lst h2⟩
/-- its lists stand -/
theorem OwnO.lists {H : Hp} {v : Addr} : ∀ {o : Ofr} {S : List Addr}, OwnO H v o S → ∀ x ∈ S, ∃ ys, H x = some (.lst ys)
  | .pack _ _, _, ⟨b, h0, h1, h2⟩, x, hx => by
    rw [h0] at hx
    rw [List.mem_singleton.mp hx]
    exact ⟨_, h2⟩
  | .many _ _, _, ⟨b, t, h0, h1, h2, us, h3, _⟩, x, hx => by
    rw [h0] at hx
    simp only [List.mem_cons, List.not_mem_nil, or_false] at hx
    rcases hx with rfl | rfl
    · exact ⟨_, h2⟩
    · exact ⟨_, h3⟩
  | .add _ _ _, _, ⟨b, h0, h1, h2⟩, x, hx => by
    rw [h0] at hx
    rw [List.mem_singleton.mp hx]
    exact ⟨_, h2⟩
/-- another list changes -/
theorem OwnO.upd {H : Hp} {v x : Addr} {ys zs : List V} (hx : H x = some (.lst ys)) : ∀ {o : Ofr} {S : List Addr}, x ∉ S → OwnO H v o S → OwnO (L2.upd H x (.lst zs)) v o S
  | .pack _ _, _, n, ⟨b, h0, h1, h2⟩ => by
    subst h0
    refine ⟨b, rfl, ?_, ?_⟩
    · rw [upd_ne (ne_of h1 hx (fun z => nomatch z))]; exact h1
    · rw [upd_ne (fun e => n (by rw [e]; exact List.mem_cons_self))]; exact h2
  | .many _ _, _, n, ⟨b, t, h0, h1, h2, us, h3, h4, h5⟩ => by
    subst h0
    refine ⟨b, t, rfl, ?_, ?_, us, ?_, h4, fun i u tt a b => ?_⟩
    · rw [upd_ne (ne_of h1 hx (fun z => nomatch z))]; exact h1
    · rw [upd_ne (fun e => n (by rw [e]; exact List.mem_cons_self))]; exact h2
    · rw [upd_ne (fun e => n (by rw [e]; exact List.mem_cons_of_mem _ List.mem_cons_self))]; exact h3
    · rw [upd_ne (ne_of (h5 i u tt a b) hx (fun z => nomatch z))]; exact h5 i u tt a b
  | .add _ _ _, _, n, ⟨b, h0, h1, h2⟩ => by
    subst h0
    refine ⟨b, rfl, ?_, ?_⟩
    · rw [upd_ne (ne_of h1 hx (fun z => nomatch z))]; exact h1
    · rw [upd_ne (fun e => n (by rw [e]; exact List.mem_cons_self))]; exact h2
/-- what may be read of an offer -/
def ReadO (xs : List Str) (o : Ofr) : Prop := TellO xs o ∧ Goods xs o.cont
def sp_read_offer (T : List Addr) : Sp := fun vs H Q _ => ∃ (a : Addr) (xs : List Str) (o : Ofr), vs = [.ref a, .str (offerS xs o)] ∧ H a = some (LS xs) ∧ GoodN xs ∧ ReadO xs o ∧ Tb T H ∧
  ∀ H' v S, Ext T H H' → OwnO H' v o S → (∀ x ∈ S, H x = none) → S.Nodup → Q (.ref v) H'
def sp_read_many (T : List Addr) : Sp := fun vs H Q _ => ∃ (a : Addr) (xs : List Str) (c : List Int) (ts : List (Int × Int)), vs = [.ref a, .str (showM xs c ++ (": " : Str) ++ tiersS ts)] ∧ H a = some (LS xs) ∧ GoodN xs ∧ Goods xs c ∧ FitT ts ∧ Tb T H ∧
  ∀ H' v S, Ext T H H' → OwnO H' v (.many c ts) S → (∀ x ∈ S, H x = none) → S.Nodup → Q (.ref v) H'
def sp_read_add (T : List Addr) : Sp := fun vs H Q _ => ∃ (a : Addr) (xs : List Str) (c : List Int) (p k : Int), vs = [.ref a, .str (numS k.toNat ++ (": " : Str) ++ soldS xs c p)] ∧ H a = some (LS xs) ∧ GoodN xs ∧ Goods xs c ∧ 0 ≤ p ∧ p < 1000000000000 ∧ 0 ≤ k ∧ k < 100 ∧ Tb T H ∧
  ∀ H' v S, Ext T H H' → OwnO H' v (.add c p k) S → (∀ x ∈ S, H x = none) → S.Nodup → Q (.ref v) H'
section
variable {P : Program} {w : World} {K : PySem.W.Frag} {mg : Str → Option Value} {base : Heap} {T : List Addr}
theorem ok_read_goods {f f1 : Addr} {fd fd1 : FuncData} {k : Nat} (M : Names mg) (D : Def K mg "read_goods" s_read_goods ["names", "text"] f fd) (D_read_content : Def K mg "read_content" s_read_content ["names", "text"] f1 fd1) (G_read_content : FnOk P w K mg base CX0 k f1 fd1 ["names", "text"] (sp_read_content T)) : FnOk P w K mg base CX0 (k + 1) f fd ["names", "text"] (sp_read_goods T) := by
  refine D.F.ok sc_read_goods (fun vs H Q E h => ?_) (fun cdv A outer s H vs Q E hr h => ?_)
  · obtain ⟨a, xs, c, rfl, _⟩ := h
    rfl
  · obtain ⟨a, xs, c, rfl, ha, g, gs, hT, q⟩ := h
    refine ⟨_, (pss_cons (ps_set (i := 2) sc_read_goods.nd rfl (Or.inl rfl) (pe_call G_read_content hr (by rfl) D_read_content.g D_read_content.F.kp D_read_content.b .nil pass0 (pa_cons (pv 0) (pa_cons (pv 1) pa_nil))))
  (pss_cons (ps_if (pt_not (pt_val (pe_callB (cr_anyI rfl) (by rfl) M.any (by decide +kernel) (pa_cons (pv 2) pa_nil))))
   (pss_one ps_never)
   pss_nil)
  (pss_one (ps_ret (pv 2))))), ?_⟩
    refine ⟨_, rfl, _, rfl, a, xs, c, rfl, ha, g, gs.1, gs.2.1, hT, fun H1 p E1 np hp => ?_⟩
    refine ⟨_, rfl, p, c, rfl, SqL.of hp, true, by rw [gs.any], _, rfl, q H1 p E1 np hp⟩
theorem ok_read_sold {f f1 f2 : Addr} {fd fd1 fd2 : FuncData} {k : Nat} (M : Names mg) (D : Def K mg "read_sold" s_read_sold ["names", "text"] f fd) (D_read_goods : Def K mg "read_goods" s_read_goods ["names", "text"] f1 fd1) (G_read_goods : FnOk P w K mg base CX0 k f1 fd1 ["names", "text"] (sp_read_goods T)) (D_read_number : Def K mg "read_number" s_read_number ["text", "figures"] f2 fd2) (G_read_number : FnOk P w K mg base CX0 k f2 fd2 ["text", "figures"] (sp_read_number T)) : FnOk P w K mg base CX0 (k + 1) f fd ["names", "text"] (sp_read_sold T) := by
  obtain ⟨tF, m_PRICE_FIGURES⟩ := M.c_PRICE_FIGURES
  refine D.F.ok sc_read_sold (fun vs H Q E h => ?_) (fun cdv A outer s H vs Q E hr h => ?_)
  · obtain ⟨a, xs, c, p, rfl, _⟩ := h
    rfl
  · obtain ⟨a, xs, c, p, rfl, ha, g, gs, p0, p1, hT, q⟩ := h
    obtain ⟨n, rfl⟩ := Int.eq_ofNat_of_zero_le p0
    have hn : n < 1000000000000 := by omega
    have sl := show_len g gs.1
    have nl := num12 hn
    refine ⟨_, (pss_cons (ps_asg (pe_m1 PySem.F.slot_str_rpartition PySem.F.type_str_rpartition mt_rpartition (pv 1) pe_str) (pg_tup rfl (pgs_cons (pg_name (i := 2) sc_read_sold.nd rfl (Or.inl rfl)) (pgs_cons (pg_name (i := 3) sc_read_sold.nd rfl (Or.inl rfl)) (pgs_cons (pg_name (i := 4) sc_read_sold.nd rfl (Or.inl rfl)) pgs_nil)))))
  (pss_one (ps_ret (pe_tup (pa_cons (pe_call G_read_goods hr (by rfl) D_read_goods.g D_read_goods.F.kp D_read_goods.b .nil pass0 (pa_cons (pv 0) (pa_cons (pv 2) pa_nil))) (pa_cons (pe_call G_read_number hr (by rfl) D_read_number.g D_read_number.F.kp D_read_number.b .nil pass0 (pa_cons (pv 4) (pa_cons (pe_glob (v := .int 12) (by rfl) m_PRICE_FIGURES ⟨_, rfl⟩) pa_nil))) pa_nil)))))), ?_⟩
    refine ⟨_, rfl, ⟨_, rfl⟩, _, _, rfl, rfl, by decide +kernel, szL (by show (showM xs c ++ (" for " : Str) ++ numS n).length ≤ _; rw [str_len_app, str_len_app, for_len]; omega), fun t nt => ?_⟩
    have e : Txt.rpartition (soldS xs c (n : Int)) (" for " : Str) = (showM xs c, (" for " : Str), numS n) := rpart_app _ _
    rw [e]
    have s1 := same_upd (o := .tup [.str (showM xs c), .str (" for " : Str), .str (numS n)]) nt
    refine ⟨t, _, rfl, SqT.of upd_same, rfl, _, _, rfl, _, _, rfl, _, _, rfl, rfl, ?_⟩
    have E1 : Ext T H _ := .same s1 hT
    generalize upd H t (.tup [.str (showM xs c), .str (" for " : Str), .str (numS n)]) = H1 at s1 E1 ⊢
    refine ⟨_, rfl, _, rfl, a, xs, c, rfl, s1 _ _ ha, g, gs, E1.t1, fun H2 b E2 nb hb => ?_⟩
    refine ⟨_, rfl, n, 12, rfl, by omega, by decide, by decide, E2.t1, fun H3 E3 => ⟨by show 2 ≤ sizeLine; decide, fun u nu => ?_⟩⟩
    have E13 := (E1.trans E2).trans E3
    have nb0 := E1.free _ nb
    exact q _ u b (E13.new (E13.free _ nu)) nb0 upd_same ((same_upd nu) _ _ (E3.lst hb))
theorem ok_read_tier {f f2 : Addr} {fd fd2 : FuncData} {k : Nat} (M : Names mg) (D : Def K mg "read_tier" s_read_tier ["text"] f fd) (D_read_number : Def K mg "read_number" s_read_number ["text", "figures"] f2 fd2) (G_read_number : FnOk P w K mg base CX0 k f2 fd2 ["text", "figures"] (sp_read_number T)) : FnOk P w K mg base CX0 (k + 1) f fd ["text"] (sp_read_tier T) := by
  obtain ⟨tF, m_PRICE_FIGURES⟩ := M.c_PRICE_FIGURES
  obtain ⟨tG, m_PLACE_FIGURES⟩ := M.c_PLACE_FIGURES
  refine D.F.ok sc_read_tier (fun vs H Q E h => ?_) (fun cdv A outer s H vs Q E hr h => ?_)
  · obtain ⟨t, rfl, _⟩ := h
    rfl
  · obtain ⟨⟨b, p⟩, rfl, b0, b1, p0, p1, hT, q⟩ := h
    have tl := tier_len (t := (b, p)) b0 b1 p0 p1
    obtain ⟨m, rfl⟩ := Int.eq_ofNat_of_zero_le b0
    obtain ⟨n, rfl⟩ := Int.eq_ofNat_of_zero_le p0
    have hm : m < 10 ^ 2 := by have : ((m : Nat) : Int) ≤ 12 := b1; omega
    have hn : n < 10 ^ 12 := by have : ((n : Nat) : Int) < 1000000000000 := p1; omega
    refine ⟨_, (pss_cons (ps_asg (pe_partition (pv 0) pe_str) (pg_tup rfl (pgs_cons (pg_name (i := 1) sc_read_tier.nd rfl (Or.inl rfl)) (pgs_cons (pg_name (i := 2) sc_read_tier.nd rfl (Or.inl rfl)) (pgs_cons (pg_name (i := 3) sc_read_tier.nd rfl (Or.inl rfl)) pgs_nil)))))
  (pss_one (ps_ret (pe_tup (pa_cons (pe_call G_read_number hr (by rfl) D_read_number.g D_read_number.F.kp D_read_number.b .nil pass0 (pa_cons (pv 1) (pa_cons (pe_glob (v := .int 2) (by rfl) m_PLACE_FIGURES ⟨_, rfl⟩) pa_nil))) (pa_cons (pe_call G_read_number hr (by rfl) D_read_number.g D_read_number.F.kp D_read_number.b .nil pass0 (pa_cons (pv 3) (pa_cons (pe_glob (v := .int 12) (by rfl) m_PRICE_FIGURES ⟨_, rfl⟩) pa_nil))) pa_nil)))))), ?_⟩
    refine ⟨_, rfl, ⟨_, rfl⟩, _, _, rfl, rfl, by decide +kernel, szL (by omega), fun t nt => ?_⟩
    have e : Txt.partition (tierS ((m : Int), (n : Int))) (" for " : Str) = (numS m, (" for " : Str), numS n) := tier_part _
    rw [e]
    have s1 := same_upd (o := .tup [.str (numS m), .str (" for " : Str), .str (numS n)]) nt
    refine ⟨t, _, rfl, SqT.of upd_same, rfl, _, _, rfl, _, _, rfl, _, _, rfl, rfl, ?_⟩
    have E1 : Ext T H _ := .same s1 hT
    generalize upd H t (.tup [.str (numS m), .str (" for " : Str), .str (numS n)]) = H1 at s1 E1 ⊢
    refine ⟨_, rfl, m, 2, rfl, hm, by decide, by decide, E1.t1, fun H2 E2 => ?_⟩
    refine ⟨_, rfl, n, 12, rfl, hn, by decide, by decide, E2.t1, fun H3 E3 => ⟨by show 2 ≤ sizeLine; decide, fun u nu => ?_⟩⟩
    have E13 := (E1.trans E2).trans E3
    exact q _ u (E13.new (E13.free _ nu)) (E13.free _ nu) upd_same
theorem ok_read_many {f f1 f2 : Addr} {fd fd1 fd2 : FuncData} {k : Nat} (M : Names mg) (D : Def K mg "read_many" s_read_many ["names", "text"] f fd) (D_read_goods : Def K mg "read_goods" s_read_goods ["names", "text"] f1 fd1) (G_read_goods : FnOk P w K mg base CX0 k f1 fd1 ["names", "text"] (sp_read_goods T)) (D_read_tier : Def K mg "read_tier" s_read_tier ["text"] f2 fd2) (G_read_tier : FnOk P w K mg base CX0 k f2 fd2 ["text"] (sp_read_tier T)) : FnOk P w K mg base CX0 (k + 1) f fd ["names", "text"] (sp_read_many T) := by
  obtain ⟨tF, m_MOST_TIERS⟩ := M.c_MOST_TIERS
  refine D.F.ok sc_read_many (fun vs H Q E h => ?_) (fun cdv A outer s H vs Q E hr h => ?_)
  · obtain ⟨a, xs, c, ts, rfl, _⟩ := h
    rfl
  · obtain ⟨a, xs, c, ts, rfl, ha, g, gs, ft, hT, q⟩ := h
    have sl := show_len g gs.1
    have tl := ft.len
    have few := ft.few
    have pos := ft.pos
    have tne : ts ≠ [] := fun z => by rw [z] at pos; exact absurd pos (by decide)
    refine ⟨_, (pss_cons (ps_asg (pe_partition (pv 1) pe_str) (pg_tup rfl (pgs_cons (pg_name (i := 3) sc_read_many.nd rfl (Or.inl rfl)) (pgs_cons (pg_name (i := 4) sc_read_many.nd rfl (Or.inl rfl)) (pgs_cons (pg_name (i := 5) sc_read_many.nd rfl (Or.inl rfl)) pgs_nil)))))
  (pss_cons (ps_set (i := 2) sc_read_many.nd rfl (Or.inl rfl) (pe_split (pv 5) pe_str))
  (pss_cons (ps_if (pt_cmpR op_gt (pe_callB call_len_seq (by rfl) M.len (by decide +kernel) (pa_cons (pv 2) pa_nil)) (pe_glob (v := .int 4) (by rfl) m_MOST_TIERS ⟨_, rfl⟩) (nomark _))
   (pss_one ps_never)
   pss_nil)
  (pss_one (ps_ret (pe_tup (pa_cons pe_str (pa_cons (pe_call G_read_goods hr (by rfl) D_read_goods.g D_read_goods.F.kp D_read_goods.b .nil pass0 (pa_cons (pv 0) (pa_cons (pv 3) pa_nil))) (pa_cons (pe_lc (own := [("part", 6)]) (by rfl) sc_read_many.nd (pi_list (pv 2)) (blkOk_by (own := [("part", 6)]) (N := N_read_many) (sc := defScope s_read_many) (by decide +kernel)) (fun _ _ _ _ _ => (pg_name (i := 6) sc_read_many.nd rfl (Or.inl rfl))) (fun _ _ _ _ _ => pts_nil) (fun _ _ _ _ _ => (pe_call G_read_tier hr (by rfl) D_read_tier.g D_read_tier.F.kp D_read_tier.b .nil pass0 (pa_cons (pv 6) pa_nil)))) pa_nil))))))))), ?_⟩
    refine ⟨_, rfl, ⟨_, rfl⟩, _, _, rfl, rfl, by decide +kernel, szL (by rw [str_len_app, str_len_app, colon_len]; omega), fun t nt => ?_⟩
    rw [many_part g]
    have s1 := same_upd (o := .tup [.str (showM xs c), .str (": " : Str), .str (tiersS ts)]) nt
    refine ⟨t, _, rfl, SqT.of upd_same, rfl, _, _, rfl, _, _, rfl, _, _, rfl, rfl, ?_⟩
    have E1 : Ext T H _ := .same s1 hT
    generalize upd H t (.tup [.str (showM xs c), .str (": " : Str), .str (tiersS ts)]) = H1 at s1 E1 ⊢
    refine ⟨_, rfl, ⟨_, rfl⟩, _, _, rfl, rfl, by decide +kernel, szL (by show (tiersS ts).length + 2 ≤ _; omega), fun L nL => ?_⟩
    rw [tiers_split tne]
    have s2 := s1.trans (same_upd (o := .lst ((ts.map tierS).map V.str)) nL)
    have hL : upd H1 L (.lst ((ts.map tierS).map V.str)) L = some (LS (ts.map tierS)) := upd_same
    have E2 : Ext T H _ := .same s2 hT
    generalize upd H1 L (.lst ((ts.map tierS).map V.str)) = H2 at s2 E2 hL ⊢
    refine ⟨_, rfl, L, _, rfl, .inl (SqL.of hL), _, _, rfl, rfl, false, by rw [List.length_map, List.length_map]; exact congrArg V.bl (decide_eq_false (by omega)), ?_⟩
    refine ⟨_, rfl, _, rfl, a, xs, c, rfl, s2 _ _ ha, g, gs, E2.t1, fun H3 b E3 nb hb => ?_⟩
    have E03 := E2.trans E3
    have hL3 := E3.lst hL
    have nb0 := E2.free _ nb
    refine ⟨_, rfl, L, rfl, ⟨_, SqL.of hL3⟩, fun B nB => lc_list (xs := (ts.map tierS).map V.str) (fun i H' => Ext T H3 H' ∧ ∃ us : List Addr, H' B = some (.lst (us.map V.ref)) ∧ us.length = i ∧ ∀ (j : Nat) u (tt : Int × Int), us[j]? = some u → ts[j]? = some tt → H' u = some (.tup [.int tt.1, .int tt.2])) ⟨(Ext.refl E3.t1).new nB, [], upd_same, rfl, fun j u tt h => by simp at h⟩ (fun i H' _ hp => SqL.of (hp.1.lst hL3)) (fun i x H4 hx hp => ?_) (fun H4 hp => ?_)⟩
    · obtain ⟨E4, us, hB, hlu, hus⟩ := hp
      obtain ⟨x', hx', rfl⟩ := of_get_strs hx
      have hi : i < ts.length := by
        have := (List.getElem?_eq_some_iff.mp hx').1
        rw [List.length_map] at this
        exact this
      have gt := List.getElem?_eq_getElem hi
      obtain ⟨t1, t2, t3, t4⟩ := ft.each _ (List.getElem_mem hi)
      rw [List.getElem?_map, gt] at hx'
      cases Option.some.inj hx'
      refine ⟨rfl, _, rfl, ts[i], rfl, t1, t2, t3, t4, E4.t1, fun H5 u E5 nu hu => ?_⟩
      have hB5 := E5.lst hB
      have neuB : u ≠ B := fun e => by rw [e, hB] at nu; cases nu
      refine ⟨_, hB5, szL' (by rw [List.length_map]; omega), (E4.trans E5).new nB, us ++ [u], ?_, by rw [List.length_append, hlu]; rfl, fun j u' tt h1 h2 => ?_⟩
      · rw [upd_same, List.map_append]
        rfl
      · by_cases hj : j < us.length
        · rw [List.getElem?_append_left hj] at h1
          have h3 := E5.tup (hus j u' tt h1 h2)
          rw [upd_ne (ne_of h3 hB5 (fun z => nomatch z))]
          exact h3
        · have hj2 : j = us.length := by
            have := (List.getElem?_eq_some_iff.mp h1).1
            rw [List.length_append] at this
            have : j < us.length + 1 := this
            omega
          subst hj2
          rw [List.getElem?_append_right (Nat.le_refl _), Nat.sub_self] at h1
          cases Option.some.inj h1
          rw [hlu, gt] at h2
          cases Option.some.inj h2
          rw [upd_ne neuB]
          exact hu
    · obtain ⟨E4, us, hB, hlu, hus⟩ := hp
      rw [List.length_map, List.length_map] at hlu
      refine ⟨by show 3 ≤ sizeLine; decide, fun v nv => ?_⟩
      have E04 := E03.trans E4
      have hb4 := E4.lst hb
      have nBb : b ≠ B := fun e => by rw [e] at hb; rw [hb] at nB; cases nB
      refine q _ v [b, B] (E04.new (E04.free _ nv)) ⟨b, B, rfl, upd_same, (same_upd nv) _ _ hb4, us, (same_upd nv) _ _ hB, hlu, fun j u tt h1 h2 => (same_upd nv) _ _ (hus j u tt h1 h2)⟩ (fun x hx => ?_) (List.nodup_cons.mpr ⟨fun z => nBb (List.mem_singleton.mp z), List.nodup_cons.mpr ⟨by simp, List.nodup_nil⟩⟩)
      simp only [List.mem_cons, List.not_mem_nil, or_false] at hx
      rcases hx with rfl | rfl
      · exact nb0
      · exact E03.free _ nB
theorem ok_read_add {f f1 f2 : Addr} {fd fd1 fd2 : FuncData} {k : Nat} (M : Names mg) (D : Def K mg "read_add" s_read_add ["names", "text"] f fd) (D_read_sold : Def K mg "read_sold" s_read_sold ["names", "text"] f1 fd1) (G_read_sold : FnOk P w K mg base CX0 k f1 fd1 ["names", "text"] (sp_read_sold T)) (D_read_number : Def K mg "read_number" s_read_number ["text", "figures"] f2 fd2) (G_read_number : FnOk P w K mg base CX0 k f2 fd2 ["text", "figures"] (sp_read_number T)) : FnOk P w K mg base CX0 (k + 1) f fd ["names", "text"] (sp_read_add T) := by
  obtain ⟨tG, m_PLACE_FIGURES⟩ := M.c_PLACE_FIGURES
  refine D.F.ok sc_read_add (fun vs H Q E h => ?_) (fun cdv A outer s H vs Q E hr h => ?_)
  · obtain ⟨a, xs, c, p, k, rfl, _⟩ := h
    rfl
  · obtain ⟨a, xs, c, p, k, rfl, ha, g, gs, p0, p1, k0, k1, hT, q⟩ := h
    obtain ⟨m, rfl⟩ := Int.eq_ofNat_of_zero_le k0
    have hm : m < 10 ^ 2 := by omega
    have ml := num12 (n := m) (by omega)
    have sl := show_len g gs.1
    have nl := num12 (n := p.toNat) (by omega)
    refine ⟨_, (pss_cons (ps_asg (pe_partition (pv 1) pe_str) (pg_tup rfl (pgs_cons (pg_name (i := 2) sc_read_add.nd rfl (Or.inl rfl)) (pgs_cons (pg_name (i := 3) sc_read_add.nd rfl (Or.inl rfl)) (pgs_cons (pg_name (i := 4) sc_read_add.nd rfl (Or.inl rfl)) pgs_nil)))))
  (pss_cons (ps_asg (pe_call G_read_sold hr (by rfl) D_read_sold.g D_read_sold.F.kp D_read_sold.b .nil pass0 (pa_cons (pv 0) (pa_cons (pv 4) pa_nil))) (pg_tup rfl (pgs_cons (pg_name (i := 5) sc_read_add.nd rfl (Or.inl rfl)) (pgs_cons (pg_name (i := 6) sc_read_add.nd rfl (Or.inl rfl)) pgs_nil))))
  (pss_one (ps_ret (pe_tup (pa_cons pe_str (pa_cons (pv 5) (pa_cons (pv 6) (pa_cons (pe_call G_read_number hr (by rfl) D_read_number.g D_read_number.F.kp D_read_number.b .nil pass0 (pa_cons (pv 2) (pa_cons (pe_glob (v := .int 2) (by rfl) m_PLACE_FIGURES ⟨_, rfl⟩) pa_nil))) pa_nil))))))))), ?_⟩
    refine ⟨_, rfl, ⟨_, rfl⟩, _, _, rfl, rfl, by decide +kernel, szL (by show (numS m ++ (": " : Str) ++ (showM xs c ++ (" for " : Str) ++ numS p.toNat)).length ≤ _; rw [str_len_app, str_len_app, str_len_app, str_len_app, colon_len, for_len]; omega), fun t nt => ?_⟩
    have e : Txt.partition (numS (((m : Nat) : Int)).toNat ++ (": " : Str) ++ soldS xs c p) (": " : Str) = (numS m, (": " : Str), soldS xs c p) := add_part _ _
    rw [e]
    have s1 := same_upd (o := .tup [.str (numS m), .str (": " : Str), .str (soldS xs c p)]) nt
    refine ⟨t, _, rfl, SqT.of upd_same, rfl, _, _, rfl, _, _, rfl, _, _, rfl, rfl, ?_⟩
    have E1 : Ext T H _ := .same s1 hT
    generalize upd H t (.tup [.str (numS m), .str (": " : Str), .str (soldS xs c p)]) = H1 at s1 E1 ⊢
    refine ⟨_, rfl, _, rfl, a, xs, c, p, rfl, s1 _ _ ha, g, gs, p0, p1, E1.t1, fun H2 u b E2 nb hu hb => ?_⟩
    refine ⟨u, _, rfl, SqT.of hu, rfl, _, _, rfl, _, _, rfl, rfl, ?_⟩
    refine ⟨_, rfl, _, rfl, _, rfl, m, 2, rfl, hm, by decide, by decide, E2.t1, fun H3 E3 => ⟨by show 4 ≤ sizeLine; decide, fun v nv => ?_⟩⟩
    have E13 := (E1.trans E2).trans E3
    exact q _ v [b] (E13.new (E13.free _ nv)) ⟨b, rfl, upd_same, (same_upd nv) _ _ (E3.lst hb)⟩ (fun x hx => by rw [List.mem_singleton.mp hx]; exact E1.free _ nb) (List.nodup_cons.mpr ⟨by simp, List.nodup_nil⟩)
theorem ok_read_offer {f f1 f2 f3 : Addr} {fd fd1 fd2 fd3 : FuncData} {k : Nat} (M : Names mg) (D : Def K mg "read_offer" s_read_offer ["names", "text"] f fd) (D_read_many : Def K mg "read_many" s_read_many ["names", "text"] f1 fd1) (G_read_many : FnOk P w K mg base CX0 k f1 fd1 ["names", "text"] (sp_read_many T)) (D_read_add : Def K mg "read_add" s_read_add ["names", "text"] f2 fd2) (G_read_add : FnOk P w K mg base CX0 k f2 fd2 ["names", "text"] (sp_read_add T)) (D_read_sold : Def K mg "read_sold" s_read_sold ["names", "text"] f3 fd3) (G_read_sold : FnOk P w K mg base CX0 k f3 fd3 ["names", "text"] (sp_read_sold T)) : FnOk P w K mg base CX0 (k + 1) f fd ["names", "text"] (sp_read_offer T) := by
  refine D.F.ok sc_read_offer (fun vs H Q E h => ?_) (fun cdv A outer s H vs Q E hr h => ?_)
  · obtain ⟨a, xs, o, rfl, _⟩ := h
    rfl
  · obtain ⟨a, xs, o, rfl, ha, g, ⟨tl, gs⟩, hT, q⟩ := h
    have ll := TellO.len g tl
    have nm : TL.tl ("many " : Str) ≠ [] := by rw [tl_manyW]; exact fun z => nomatch z
    have nw : TL.tl ("with " : Str) ≠ [] := by rw [tl_withW]; exact fun z => nomatch z
    refine ⟨_, (pss_cons (ps_if (pt_val (pe_m1 PySem.F.slot_str_startswith PySem.F.type_str_startswith mt_startswith (pv 1) pe_str))
   (pss_one (ps_ret (pe_call G_read_many hr (by rfl) D_read_many.g D_read_many.F.kp D_read_many.b .nil pass0 (pa_cons (pv 0) (pa_cons (pe_m1 PySem.F.slot_str_removeprefix PySem.F.type_str_removeprefix mt_removeprefix (pv 1) pe_str) pa_nil)))))
   pss_nil)
  (pss_cons (ps_if (pt_val (pe_m1 PySem.F.slot_str_startswith PySem.F.type_str_startswith mt_startswith (pv 1) pe_str))
   (pss_one (ps_ret (pe_call G_read_add hr (by rfl) D_read_add.g D_read_add.F.kp D_read_add.b .nil pass0 (pa_cons (pv 0) (pa_cons (pe_m1 PySem.F.slot_str_removeprefix PySem.F.type_str_removeprefix mt_removeprefix (pv 1) pe_str) pa_nil)))))
   pss_nil)
  (pss_cons (ps_asg (pe_call G_read_sold hr (by rfl) D_read_sold.g D_read_sold.F.kp D_read_sold.b .nil pass0 (pa_cons (pv 0) (pa_cons (pv 1) pa_nil))) (pg_tup rfl (pgs_cons (pg_name (i := 2) sc_read_offer.nd rfl (Or.inl rfl)) (pgs_cons (pg_name (i := 3) sc_read_offer.nd rfl (Or.inl rfl)) pgs_nil))))
  (pss_one (ps_ret (pe_tup (pa_cons pe_str (pa_cons (pv 2) (pa_cons (pv 3) pa_nil))))))))), ?_⟩
    cases o with
    | many c ts =>
      have e1 : Txt.startswith (offerS xs (.many c ts)) ("many " : Str) = true := starts_app _ _ nm
      have e2 : Txt.removeprefix (offerS xs (.many c ts)) ("many " : Str) = showM xs c ++ (": " : Str) ++ tiersS ts := remove_app _ _ nm
      refine ⟨_, rfl, ⟨_, rfl⟩, _, _, rfl, rfl, true, by rw [e1], ?_⟩
      refine ⟨_, rfl, _, rfl, ⟨_, rfl⟩, _, _, rfl, rfl, szL (by omega), a, xs, c, ts, by rw [e2]; rfl, ha, g, gs, tl.2, hT, q⟩
    | add c p k =>
      have e0 : Txt.startswith (offerS xs (.add c p k)) ("many " : Str) = false := starts_other (c := 119) (d := 109) (by show TL.tl (("with " : Str) ++ _) = _; rw [TL.tl_append, tl_withW]; rfl) tl_manyW (by decide)
      have e1 : Txt.startswith (offerS xs (.add c p k)) ("with " : Str) = true := starts_app _ _ nw
      have e2 : Txt.removeprefix (offerS xs (.add c p k)) ("with " : Str) = numS k.toNat ++ (": " : Str) ++ soldS xs c p := remove_app _ _ nw
      obtain ⟨fc, p0, p1, k0, k1⟩ := tl
      refine ⟨_, rfl, ⟨_, rfl⟩, _, _, rfl, rfl, false, by rw [e0], ?_⟩
      refine ⟨_, rfl, ⟨_, rfl⟩, _, _, rfl, rfl, true, by rw [e1], ?_⟩
      refine ⟨_, rfl, _, rfl, ⟨_, rfl⟩, _, _, rfl, rfl, szL (by omega), a, xs, c, p, k, by rw [e2]; rfl, ha, g, gs, p0, p1, k0, k1, hT, q⟩
    | pack c p =>
      obtain ⟨d, r, ed, d0, d1⟩ := Goods.head gs
      have et : ∃ r', TL.tl (offerS xs (.pack c p)) = d :: r' := ⟨r ++ TL.tl (" for " : Str) ++ TL.tl (numS p.toNat), by
        show TL.tl (showM xs c ++ (" for " : Str) ++ numS p.toNat) = _
        rw [TL.tl_append, TL.tl_append, show TL.tl (showM xs c) = d :: r from ed]
        rfl⟩
      obtain ⟨r', et⟩ := et
      have e0 : Txt.startswith (offerS xs (.pack c p)) ("many " : Str) = false := starts_other et tl_manyW (by omega)
      have e1 : Txt.startswith (offerS xs (.pack c p)) ("with " : Str) = false := starts_other et tl_withW (by omega)
      obtain ⟨fc, p0, p1⟩ := tl
      refine ⟨_, rfl, ⟨_, rfl⟩, _, _, rfl, rfl, false, by rw [e0], ?_⟩
      refine ⟨_, rfl, ⟨_, rfl⟩, _, _, rfl, rfl, false, by rw [e1], ?_⟩
      refine ⟨_, rfl, _, rfl, a, xs, c, p, rfl, ha, g, gs, p0, p1, hT, fun H1 u b E1 nb hu hb => ?_⟩
      refine ⟨u, _, rfl, SqT.of hu, rfl, _, _, rfl, _, _, rfl, rfl, ?_⟩
      refine ⟨_, rfl, _, rfl, by show 3 ≤ sizeLine; decide, fun v nv => ?_⟩
      exact q _ v [b] (E1.new (E1.free _ nv)) ⟨b, rfl, upd_same, (same_upd nv) _ _ hb⟩ (fun x hx => by rw [List.mem_singleton.mp hx]; exact nb) (List.nodup_cons.mpr ⟨by simp, List.nodup_nil⟩)
end
/-! ### read_shop, _law_offer_text, _law_right -/
/-- a told shop: its lists are new and stand at one place alone -/
structure Told (H H' : Hp) (q : Addr) (vs : List Addr) (os : List Ofr) (Ss : List (List Addr)) : Prop where
  atq : H' q = some (.lst (vs.map V.ref))
  len : vs.length = os.length
  lenS : Ss.length = os.length
  each : ∀ (i : Nat) v o S, vs[i]? = some v → os[i]? = some o → Ss[i]? = some S → OwnO H' v o S
  new : ∀ S ∈ Ss, ∀ x ∈ S, H x = none
  newq : H q = none
  nq : ∀ S ∈ Ss, q ∉ S
  nd : ∀ S ∈ Ss, S.Nodup
  apart : ∀ (i j : Nat) S S', i < j → Ss[i]? = some S → Ss[j]? = some S' → ∀ x ∈ S, x ∉ S'
def sp_read_shop (T : List Addr) : Sp := fun vs H Q _ => ∃ (a r : Addr) (xs : List Str) (os : List Ofr), vs = [.ref a, .ref r] ∧ H a = some (LS xs) ∧ H r = some (LS (os.map (offerS xs))) ∧ GoodN xs ∧ (∀ o ∈ os, ReadO xs o) ∧ os.length ≤ 8 ∧ Tb T H ∧
  ∀ H' q us Ss, Ext T H H' → Told H H' q us os Ss → Q (.ref q) H'
theorem snoc_at {α : Type} {l : List α} {x y : α} {j : Nat} (h : (l ++ [x])[j]? = some y) : (j < l.length ∧ l[j]? = some y) ∨ (j = l.length ∧ y = x) := by
  by_cases hj : j < l.length
  · rw [List.getElem?_append_left hj] at h
    exact .inl ⟨hj, h⟩
  · have := (List.getElem?_eq_some_iff.mp h).1
    rw [List.length_append] at this
    have : j < l.length + 1 := this
    have e : j = l.length := by omega
    subst e
    rw [List.getElem?_append_right (Nat.le_refl _), Nat.sub_self] at h
    exact .inr ⟨rfl, (Option.some.inj h).symm⟩
section
variable {P : Program} {w : World} {K : PySem.W.Frag} {mg : Str → Option Value} {base : Heap} {T : List Addr}
theorem ok_read_shop {f f1 : Addr} {fd fd1 : FuncData} {k : Nat} (M : Names mg) (D : Def K mg "read_shop" s_read_shop ["names", "rows"] f fd) (D_read_offer : Def K mg "read_offer" s_read_offer ["names", "text"] f1 fd1) (G_read_offer : FnOk P w K mg base CX0 k f1 fd1 ["names", "text"] (sp_read_offer T)) : FnOk P w K mg base CX0 (k + 1) f fd ["names", "rows"] (sp_read_shop T) := by
  refine D.F.ok sc_read_shop (fun vs H Q E h => ?_) (fun cdv A outer s H vs Q E hr h => ?_)
  · obtain ⟨a, r, xs, os, rfl, _⟩ := h
    rfl
  · obtain ⟨a, r, xs, os, rfl, ha, hrr, g, rd, h8, hT, q⟩ := h
    refine ⟨_, (pss_cons (ps_set (i := 2) sc_read_shop.nd rfl (Or.inl rfl) (pe_lst pa_nil))
  (pss_cons (ps_for PassesOwn.never rfl (pi_enum (by rfl) M.enumerate (pa_cons (pv 1) pa_nil)) (pg_tup rfl (pgs_cons (pg_name (i := 3) sc_read_shop.nd rfl (Or.inl rfl)) (pgs_cons (pg_name (i := 4) sc_read_shop.nd rfl (Or.inl rfl)) pgs_nil)))
   (pss_one (ps_try_thru0 (pss_one (ps_expr (pe_bm PySem.F.plainAttrs_list PySem.F.slot_list_append PySem.F.type_list_append mt_append (pv 2) (pa_cons (pe_call G_read_offer hr (by rfl) D_read_offer.g D_read_offer.F.kp D_read_offer.b .nil pass0 (pa_cons (pv 0) (pa_cons (pv 4) pa_nil))) pa_nil)))))))
  (pss_one (ps_ret (pv 2))))), ?_⟩
    refine ⟨by decide, fun B nB => ?_⟩
    have s0 := same_upd (o := .lst []) nB
    refine ⟨_, rfl, r, _, rfl, SqL.of (s0 _ _ hrr), for_it (walk_enum (K := K) (a := r) (xs := (os.map (offerS xs)).map V.str)) (fun i σ H' => ∃ y3 y4 us Ss, σ = [some (.ref a), some (.ref r), some (.ref B), y3, y4] ∧ Ext T H H' ∧ Told H H' B us (os.take i) Ss) ⟨none, none, [], [], rfl, .same s0 hT, ⟨upd_same, rfl, rfl, fun i v o S h => by simp at h, (fun S h => by cases h), nB, (fun S h => by cases h), (fun S h => by cases h), fun i j S S' _ h => by simp at h⟩⟩ (fun i σ H' _ hp => ?_) (fun i x σ H1 H2 hi hp hy => ?_) (fun σ H1 hp => ?_)⟩
    · obtain ⟨_, _, _, _, _, E1, _⟩ := hp
      exact SqL.of (E1.lst hrr)
    · obtain ⟨y3, y4, us, Ss, rfl, E1, td⟩ := hp
      obtain ⟨Tt, x1, x2, rfl, nT, rfl, e1, e2⟩ := hy
      cases Option.some.inj e1
      obtain ⟨tx, htx, rfl⟩ := of_get_strs e2
      rw [List.length_map, List.length_map] at hi
      have go := List.getElem?_eq_getElem hi
      rw [List.getElem?_map, go] at htx
      cases Option.some.inj htx
      have E2 : Ext T H (upd H1 Tt (.tup [.int (i : Nat), .str (offerS xs os[i])])) := E1.new (E1.free _ nT)
      have s12 := same_upd (o := .tup [.int (i : Nat), .str (offerS xs os[i])]) nT
      have hTt : upd H1 Tt (.tup [.int (i : Nat), .str (offerS xs os[i])]) Tt = some (.tup [.int (i : Nat), .str (offerS xs os[i])]) := upd_same
      have hq2 := s12 _ _ td.atq
      have E12 : Ext T H1 (upd H1 Tt (.tup [.int (i : Nat), .str (offerS xs os[i])])) := .same s12 E1.t1
      generalize upd H1 Tt (.tup [.int (i : Nat), .str (offerS xs os[i])]) = H2 at E2 s12 hTt hq2 E12 ⊢
      refine ⟨Tt, _, rfl, SqT.of hTt, rfl, _, _, rfl, _, _, rfl, rfl, ?_⟩
      refine ⟨_, rfl, .inl ⟨rfl, _, SqL.of hq2⟩, _, rfl, _, rfl, a, xs, os[i], rfl, E2.lst ha, g, rd _ (List.getElem_mem hi), E2.t1, fun H3 v S E3 ow nS ndS => ?_⟩
      have hq3 := E3.lst hq2
      have E13 := E12.trans E3
      have lu : us.length = i := by rw [td.len, List.length_take]; omega
      have lS : Ss.length = i := by rw [td.lenS, List.length_take]; omega
      have nBS : B ∉ S := fun z => by
        have := nS B z
        rw [hq2] at this
        cases this
      refine ⟨B, _, _, rfl, rfl, hq3, szL' (by rw [List.length_map]; omega), _, _, us ++ [v], Ss ++ [S], rfl, (E2.trans E3).new nB, ?_⟩
      refine ⟨by rw [upd_same, List.map_append]; rfl, by rw [take_succ_at go, List.length_append, List.length_append, td.len]; rfl, by rw [take_succ_at go, List.length_append, List.length_append, td.lenS]; rfl, fun j v' o' S' h1 h2 h3 => ?_, fun S' hS' x hx => ?_, nB, fun S' hS' => ?_, fun S' hS' => ?_, fun i' j' S1 S2 hij h1 h2 x hx => ?_⟩
      · rw [take_succ_at go] at h2
        rcases snoc_at h1 with ⟨l1, h1⟩ | ⟨l1, rfl⟩
        · rcases snoc_at h2 with ⟨l2, h2⟩ | ⟨l2, rfl⟩
          · rcases snoc_at h3 with ⟨l3, h3⟩ | ⟨l3, rfl⟩
            · have o1 := (td.each j v' o' S' h1 h2 h3).ext E13
              exact o1.upd hq3 (td.nq S' (List.mem_of_getElem? h3))
            · omega
          · rw [List.length_take] at l2
            omega
        · rcases snoc_at h2 with ⟨l2, h2⟩ | ⟨l2, rfl⟩
          · rw [List.length_take] at l2
            omega
          · rcases snoc_at h3 with ⟨l3, h3⟩ | ⟨l3, rfl⟩
            · omega
            · exact ow.upd hq3 nBS
      · rcases List.mem_append.mp hS' with z | z
        · exact td.new S' z x hx
        · rw [List.mem_singleton.mp z] at hx
          exact E2.free _ (nS x hx)
      · rcases List.mem_append.mp hS' with z | z
        · exact td.nq S' z
        · rw [List.mem_singleton.mp z]
          exact nBS
      · rcases List.mem_append.mp hS' with z | z
        · exact td.nd S' z
        · rw [List.mem_singleton.mp z]
          exact ndS
      · rcases snoc_at h1 with ⟨l1, g1⟩ | ⟨l1, rfl⟩
        · rcases snoc_at h2 with ⟨l2, g2⟩ | ⟨l2, rfl⟩
          · exact td.apart i' j' S1 S2 hij g1 g2 x hx
          · intro z
            have nx := nS x z
            have hio : i' < (os.take i).length := by rw [← td.lenS]; exact l1
            obtain ⟨ys, hy⟩ := (td.each i' (us[i']'(by rw [td.len]; exact hio)) ((os.take i)[i']) S1 (List.getElem?_eq_getElem _) (List.getElem?_eq_getElem _) g1).lists x hx
            rw [E12.lst hy] at nx
            cases nx
        · have := (List.getElem?_eq_some_iff.mp h2).1
          rw [List.length_append] at this
          have : j' < Ss.length + 1 := this
          omega
    · obtain ⟨y3, y4, us, Ss, rfl, E1, td⟩ := hp
      rw [List.length_map, List.length_map, List.take_length] at td
      exact ⟨_, rfl, q H1 B us Ss E1 td⟩
end
abbrev s_law_offer_text : Stmt := topS 44
abbrev N_law_offer_text : List Str := ["_law_names_here", "_law_offer", "_law_content_here", "_law_start", "_law_price_here"]
theorem sc_law_offer_text : FnScope N_law_offer_text ["_law_names_here", "_law_offer"] (defScope s_law_offer_text) := ⟨rfl, rfl, rfl, by decide +kernel, rfl, by decide +kernel, by decide +kernel⟩

abbrev s_law_right : Stmt := topS 45
abbrev N_law_right : List Str := ["_law_found", "_law_shop_here", "_law_k"]
theorem sc_law_right : FnScope N_law_right ["_law_found", "_law_shop_here"] (defScope s_law_right) := ⟨rfl, rfl, rfl, by decide +kernel, rfl, by decide +kernel, by decide +kernel⟩

section
variable {P : Program} {w : World} {K : PySem.W.Frag} {mg : Str → Option Value} {base : Heap} {T : List Addr}
theorem ok_law_offer_text {f f1 : Addr} {fd fd1 : FuncData} {k : Nat} (M : Names mg) (D : Def K mg "_law_offer_text" s_law_offer_text ["_law_names_here", "_law_offer"] f fd) (D_law_content_text : Def K mg "_law_content_text" s_law_content_text ["_law_names_here", "_law_content_here"] f1 fd1) : FnOk P w K mg base CX0 (k + 2) f fd ["_law_names_here", "_law_offer"] sp_show_offer := by
  have G_law_content_text : FnOk P w K mg base CX0 (k + 1) f1 fd1 ["_law_names_here", "_law_content_here"] sp_law_text := ok_law_text M D_law_content_text
  refine D.F.ok sc_law_offer_text (fun vs H Q E h => ?_) (fun cdv A outer s H vs Q E hr h => ?_)
  · obtain ⟨a, v, xs, o, rfl, _⟩ := h
    rfl
  · obtain ⟨a, v, xs, o, rfl, ha, ho, g, tl, q⟩ := h
    have sl := show_len g tl.cont
    refine ⟨_, (pss_cons (ps_set (i := 2) sc_law_offer_text.nd rfl (Or.inl rfl) (pe_call G_law_content_text hr (by rfl) D_law_content_text.g D_law_content_text.F.kp D_law_content_text.b .nil pass0 (pa_cons (pv 0) (pa_cons (pe_ix ix_tup (pv 1) pe_int (fun _ _ => rfl)) pa_nil))))
  (pss_cons (ps_if (pt_cmpR op_eq (pe_ix ix_tup (pv 1) pe_int (fun _ _ => rfl)) pe_str (nomark _))
   (pss_one (ps_ret (pe_op op_add_str (pe_op op_add_str (pe_op op_add_str pe_str (pv 2)) pe_str) (pe_join pe_str (pe_lc (own := [("_law_start", 3), ("_law_price_here", 4)]) (by rfl) sc_law_offer_text.nd (pi_list (pe_ix ix_tup (pv 1) pe_int (fun _ _ => rfl))) (blkOk_by (own := [("_law_start", 3), ("_law_price_here", 4)]) (N := N_law_offer_text) (sc := defScope s_law_offer_text) (by decide +kernel)) (fun _ _ _ _ _ => (pg_tupK (K := K) (n := 2) rfl rfl (pgs_cons (pg_name (i := 3) sc_law_offer_text.nd rfl (Or.inl rfl)) (pgs_cons (pg_name (i := 4) sc_law_offer_text.nd rfl (Or.inl rfl)) pgs_nil)))) (fun _ _ _ _ _ => pts_nil) (fun _ _ _ _ _ => (pe_op op_add_str (pe_op op_add_str (pe_callTy call_str_int (by rfl) M.str (by decide +kernel) (pa_cons (pv 3) pa_nil)) pe_str) (pe_callTy call_str_int (by rfl) M.str (by decide +kernel) (pa_cons (pv 4) pa_nil)))))))))
   pss_nil)
  (pss_cons (ps_if (pt_cmpR op_eq (pe_ix ix_tup (pv 1) pe_int (fun _ _ => rfl)) pe_str (nomark _))
   (pss_one (ps_ret (pe_op op_add_str (pe_op op_add_str (pe_op op_add_str (pe_op op_add_str (pe_op op_add_str pe_str (pe_callTy call_str_int (by rfl) M.str (by decide +kernel) (pa_cons (pe_ix ix_tup (pv 1) pe_int (fun _ _ => rfl)) pa_nil))) pe_str) (pv 2)) pe_str) (pe_callTy call_str_int (by rfl) M.str (by decide +kernel) (pa_cons (pe_ix ix_tup (pv 1) pe_int (fun _ _ => rfl)) pa_nil)))))
   pss_nil)
  (pss_one (ps_ret (pe_op op_add_str (pe_op op_add_str (pv 2) pe_str) (pe_callTy call_str_int (by rfl) M.str (by decide +kernel) (pa_cons (pe_ix ix_tup (pv 1) pe_int (fun _ _ => rfl)) pa_nil)))))))), ?_⟩
    cases o with
    | pack c p =>
      obtain ⟨b, hv, hb⟩ := ho
      obtain ⟨fc, p0, p1⟩ := tl
      obtain ⟨n, rfl⟩ := Int.eq_ofNat_of_zero_le p0
      have hn : n < 1000000000000 := by omega
      have nl := num12 hn
      refine ⟨_, rfl, _, rfl, v, _, _, _, rfl, rfl, SqT.of hv, atI_nat (j := 1) rfl, a, b, xs, c, rfl, ha, hb, g, fc, fun H1 s1 => ?_⟩
      have hv1 := s1 _ _ hv
      refine ⟨_, rfl, v, _, _, _, rfl, rfl, SqT.of hv1, atI_nat (j := 0) rfl, rfl, false, rfl, ?_⟩
      refine ⟨_, rfl, v, _, _, _, rfl, rfl, SqT.of hv1, atI_nat (j := 0) rfl, rfl, false, rfl, ?_⟩
      have sl' : (showM xs c).length ≤ 48 := sl
      exact ⟨_, rfl, _, _, rfl, rfl, szL (by rw [for_len]; omega), _, rfl, v, _, _, _, rfl, rfl, SqT.of hv1, atI_nat (j := 2) rfl, _, rfl, log12 hn, _, _, rfl, rfl, szL (by rw [str_len_app, for_len]; show _ + (numS n).length ≤ _; omega), q H1 s1⟩
    | add c p k =>
      obtain ⟨b, hv, hb⟩ := ho
      obtain ⟨fc, p0, p1, k0, k1⟩ := tl
      obtain ⟨n, rfl⟩ := Int.eq_ofNat_of_zero_le p0
      obtain ⟨j, rfl⟩ := Int.eq_ofNat_of_zero_le k0
      have hn : n < 1000000000000 := by omega
      have hj : j < 1000000000000 := by omega
      have nl := num12 hn
      have jl := num12 hj
      refine ⟨_, rfl, _, rfl, v, _, _, _, rfl, rfl, SqT.of hv, atI_nat (j := 1) rfl, a, b, xs, c, rfl, ha, hb, g, fc, fun H1 s1 => ?_⟩
      have hv1 := s1 _ _ hv
      refine ⟨_, rfl, v, _, _, _, rfl, rfl, SqT.of hv1, atI_nat (j := 0) rfl, rfl, false, rfl, ?_⟩
      refine ⟨_, rfl, v, _, _, _, rfl, rfl, SqT.of hv1, atI_nat (j := 0) rfl, rfl, true, rfl, ?_⟩
      have sl' : (showM xs c).length ≤ 48 := sl
      have e : offerS xs (.add c (n : Int) (j : Int)) = ("with " : Str) ++ numS j ++ (": " : Str) ++ showM xs c ++ (" for " : Str) ++ numS n := by
        refine TL.ext_tl ?_
        show TL.tl (("with " : Str) ++ (numS j ++ (": " : Str) ++ (showM xs c ++ (" for " : Str) ++ numS n))) = _
        simp only [TL.tl_append, List.append_assoc]
      rw [e] at q
      have w5 := word5_len.2
      exact ⟨_, rfl, v, _, _, _, rfl, rfl, SqT.of hv1, atI_nat (j := 3) rfl, _, rfl, log12 hj, _, _, rfl, rfl, szL (by show _ + (numS j).length ≤ _; omega), _, _, rfl, rfl, szL (by rw [str_len_app, colon_len]; show _ + (numS j).length + _ ≤ _; omega), _, rfl, _, _, rfl, rfl, szL (by rw [str_len_app, str_len_app, colon_len]; show _ + (numS j).length + _ + _ ≤ _; omega), _, _, rfl, rfl, szL (by rw [str_len_app, str_len_app, str_len_app, colon_len, for_len]; show _ + (numS j).length + _ + _ + _ ≤ _; omega), _, rfl, v, _, _, _, rfl, rfl, SqT.of hv1, atI_nat (j := 2) rfl, _, rfl, log12 hn, _, _, rfl, rfl, szL (by rw [str_len_app, str_len_app, str_len_app, str_len_app, colon_len, for_len]; show _ + (numS j).length + _ + _ + _ + (numS n).length ≤ _; omega), q H1 s1⟩
    | many c ts =>
      obtain ⟨b, t, hv, hb, us, u1, u2, u3⟩ := ho
      obtain ⟨fc, ft⟩ := tl
      have few := ft.few
      refine ⟨_, rfl, _, rfl, v, _, _, _, rfl, rfl, SqT.of hv, atI_nat (j := 1) rfl, a, b, xs, c, rfl, ha, hb, g, fc, fun H1 s1 => ?_⟩
      have hv1 := s1 _ _ hv
      have u1' := s1 _ _ u1
      refine ⟨_, rfl, v, _, _, _, rfl, rfl, SqT.of hv1, atI_nat (j := 0) rfl, rfl, true, rfl, ?_⟩
      have sl' : (showM xs c).length ≤ 48 := sl
      have w5 := word5_len.1
      refine ⟨_, rfl, _, _, rfl, rfl, szL (by omega), _, _, rfl, rfl, szL (by rw [str_len_app, colon_len]; omega), ⟨_, rfl⟩, _, rfl, v, _, _, _, rfl, rfl, SqT.of hv1, atI_nat (j := 2) rfl, t, rfl, ⟨_, SqL.of u1'⟩, fun B nB => lc_list (xs := us.map V.ref) (fun i H' => Same H1 H' ∧ H' B = some (LS ((ts.take i).map tierS))) ⟨same_upd nB, upd_same⟩ (fun i H' _ hp => SqL.of (hp.1 _ _ u1')) (fun i x H2 hx hp => ?_) (fun H2 hp => ?_)⟩
      · obtain ⟨s2, hB⟩ := hp
        rw [List.getElem?_map] at hx
        cases hu : us[i]? with
        | none => rw [hu] at hx; cases hx
        | some u =>
          rw [hu] at hx
          cases Option.some.inj hx
          have hi : i < ts.length := by
            have := (List.getElem?_eq_some_iff.mp hu).1
            omega
          have gt := List.getElem?_eq_getElem hi
          obtain ⟨t1, t2, t3, t4⟩ := ft.each _ (List.getElem_mem hi)
          have hu2 := s2 _ _ (s1 _ _ (u3 i u _ hu gt))
          generalize ts[i] = tt at gt t1 t2 t3 t4 hu2
          obtain ⟨b1, p1⟩ := tt
          obtain ⟨b0, rfl⟩ := Int.eq_ofNat_of_zero_le t1
          obtain ⟨p0, rfl⟩ := Int.eq_ofNat_of_zero_le t3
          have l1 : b0 < 1000000000000 := by have : ((b0 : Nat) : Int) ≤ 12 := t2; omega
          have l2 : p0 < 1000000000000 := by have : ((p0 : Nat) : Int) < 1000000000000 := t4; omega
          have n1 := num12 l1
          have n2 := num12 l2
          refine ⟨u, _, rfl, SqT.of hu2, rfl, _, _, rfl, _, _, rfl, rfl, rfl, _, rfl, _, rfl, log12 l1, _, _, rfl, rfl, szL (by rw [for_len]; show (numS b0).length + _ ≤ _; omega), _, rfl, _, rfl, log12 l2, _, _, rfl, rfl, szL (by rw [str_len_app, for_len]; show (numS b0).length + _ + (numS p0).length ≤ _; omega), _, hB, szL' (by rw [List.length_map, List.length_map, List.length_take]; omega), sm_new s2 nB, ?_⟩
          rw [upd_same, ls_app, take_succ_at gt, List.map_append]
          rfl
      · obtain ⟨s2, hB⟩ := hp
        rw [List.length_map, u2, List.take_length] at hB
        have sm := sum20 ft.lens
        have tln := ft.len
        rw [List.length_map] at sm
        refine ⟨_, B, _, rfl, rfl, .inl (SqL.of hB), by rw [comma_len, List.length_map]; omega, ?_⟩
        rw [TL.join_eq]
        have e : offerS xs (.many c ts) = ("many " : Str) ++ showM xs c ++ (": " : Str) ++ tiersS ts := by
          refine TL.ext_tl ?_
          show TL.tl (("many " : Str) ++ (showM xs c ++ (": " : Str) ++ tiersS ts)) = _
          simp only [TL.tl_append, List.append_assoc]
        rw [e] at q
        have tln' : (Str.join (", " : Str) (ts.map tierS)).length ≤ 88 := tln
        exact ⟨_, _, rfl, rfl, szL (by rw [str_len_app, str_len_app, colon_len]; omega), q H2 (s1.trans s2)⟩
end
/-! ### defs that are called while no list or tuple is being shown: str(..) of data -/
structure FnOkG (P : Program) (w : World) (K : PySem.W.Frag) (mg : Str → Option Value) (base : Heap) (k : Nat) (f : Addr) (fd : FuncData) (ps : List Str) (sp : Sp) : Prop where
  count : ∀ vs H Q E, sp vs H Q E → vs.length = ps.length
  go : ∀ (A : Around) (out : List Env) (s : Shared) (H : Hp) (args : Args) (us : List Value) (vs : List V) (Q : VK) (E : XK), A.guards = some [] → Room k A → Env0 P w K mg base A out s H → BindsTo s fd args (ps.zip us) → Vals vs us → sp vs H Q E →
    codeAny (model P w) A (.call (.ref f) args) (CR CX0 out P w H s Q E) s
section
variable {P : Program} {w : World} {K : PySem.W.Frag} {mg : Str → Option Value} {base : Heap}
theorem okG {x qual : Str} {st : Stmt} {f : Addr} {fd : FuncData} {N ps : List Str} {k : Nat} {sp : Sp} (F : Fun K x qual st f fd) (S : FnScope N ps (defScope st)) (cnt : ∀ vs H Q E, sp vs H Q E → vs.length = ps.length)
    (bd : ∀ (cdv : Value) (A : Around) (out : List Env) (s : Shared) (H : Hp) (vs : List V) (Q : VK) (E : XK), (A.deeper (envOfC qual (defScope st) s.heap.objs.size f cdv)).guards = some [] → Room k (A.deeper (envOfC qual (defScope st) s.heap.objs.size f cdv)) → sp vs H Q E →
      ∃ t, PSs (cxOf CX0 P w K mg base N qual (defScope st) f cdv A out s H E).nox (defBody st) t ∧ t { nx := fun _ H' => Q .non H', rt := Q } (start N vs) H) : FnOkG P w K mg base (k + 1) f fd ps sp := by
  obtain ⟨oc, od, kV, doc, pm, an, cdv, ct, osl, rfl, lk, hcd⟩ := F.ex
  refine ⟨cnt, fun A out s H args us vs Q E gd room env bnd rv pre => ?_⟩
  have kin : K.In s.heap := env.mod.kin.keeps fun b o z => (env.bs b o z).1
  have nol : s.heap.NoLimit := env.mod.nolimit.keeps fun b o z => (env.bs b o z).1
  refine codeAny_call_function room.depth (kin _ _ lk) rfl S.co S.gen rfl (PySem.W.codeRec_of kin hcd) (bnd _ _ _ _ ?_)
  refine wpAny_newFunctionEnv_cells S.kind (fun y hy => ?_) fun env' he s1 inside => ?_
  · have hp := S.par y.1 (List.of_mem_zip (show (y.1, y.2) ∈ ps.zip us from hy)).1
    exact hp.imp id fun z => ⟨z, PySem.W.cellsFrom_some _ _ _ (.inl z)⟩
  · subst he
    refine ⟨nol.keeps inside.toInCall.keep, codeAny_func ?_⟩
    obtain ⟨t, body, holds⟩ := bd cdv A out s H vs Q E gd (room.deeper _) pre
    have inv : Inv (cxOf CX0 P w K mg base N qual (defScope st) f cdv A out s H E) [] (start N vs) H s1 := inv_start S room.hd env (cnt _ _ _ _ pre) rv inside
    refine wpAny_mono (body.nox.run [] s1 (start N vs) H _ inv holds) (fun fl s' res => ?_) fun _ _ z => z
    cases fl with
    | brk => exact res.elim fun _ z => z.elim fun _ z => z.2.elim
    | cont => exact res.elim fun _ z => z.elim fun _ z => z.2.elim
    | next =>
      obtain ⟨_, Hn, J, z⟩ := res
      exact ⟨.non, Hn, J.os, J.bare, J.base, J.hok, rfl, z⟩
    | ret u =>
      obtain ⟨v, _, Hn, J, rel, z⟩ := res
      exact ⟨v, Hn, J.os, J.bare, J.base, J.hok, rel, z⟩
/-- f(e, ..), f such a def -/
theorem pe_callG {X : Cx} {x : Str} {f : Addr} {fd : FuncData} {ps : List Str} {sp : Sp} {k : Nat} {p pos : Pos} {e : Expr} {es : List Expr} {t : TA} (gd : X.A.guards = some []) (F : FnOkG X.prog X.w X.K X.mg X.base k f fd ps sp) (room : Room k X.A) (hg : Gl X x) (hm : X.mg x = some (.ref f)) (kp : PySem.W.keepIn X.K (.ref f) = true) (bnd : Binds X.K fd ps [])
    (args : PA X (e :: es) t) (hx : Passes CX0 X fun _ _ _ => False) (nodb : (x == ("__debug__" : Str)) = false := by decide) (plain : starEach (e :: es) X.env = (false, eval e X.env) :: starEach es X.env := by rfl) (rest : (backTo pos (starEach es X.env)).any (·.1) = false := by rfl) :
    PE X (.Call (.Name x p) (e :: es) [] pos) (tCall sp [] (fun _ _ _ => False) t) := by
  refine ⟨fun pins s σ H Q I pre => wpAny_Call_Name_kw (ld_glob I hg hm ?_ nodb)⟩
  refine PySem.W.callWith_K (h₀ := X.base) I.ok.mod.kin kp (thn (args.run pos pins s σ H _ I pre) fun us s1 got => ?_) plain rest
  obtain ⟨vs, H1, I1, rel, pre1⟩ := got
  have pre1' : sp vs H1 Q fun _ _ _ => False := by
    have z := pre1
    rw [List.append_nil] at z
    exact z
  have many : us.length = ps.length := by rw [← rel.length]; exact F.count _ _ _ _ pre1'
  have bt := bnd s1 us I1.kIn (by rw [List.append_nil]; exact many)
  rw [List.append_nil] at bt
  refine ⟨I1.kIn, wpAny_call (codeAny_mono (F.go X.A X.stack s1 H1 ⟨us, []⟩ us vs Q _ gd room I1.env0 bt rel pre1') fun r s' res => ?_)⟩
  match r, res with
  | .error er, z => exact hx pins σ H1 s1 er s' I1 z
  | .ok (.ret u), z => exact I1.after z
/-- str(x) of data -/
def rStrD (K : PySem.W.Frag) : List V → Hp → VK → Prop := fun xs H Q => ∃ (a : Addr) (d : PyData), xs = [.ref a] ∧ Dp K H (.ref a) d ∧ d.showable = true ∧ d.hasDict = false ∧ d.depth ≤ 60 ∧ d.shown.length ≤ sizeLine ∧ Q (.str d.shown) H
theorem cr_strD {X : Cx} (gd : X.A.guards = some []) (hu : X.A.units + 64 < cLine) : CallR X (.type "str") (rStrD X.K) := by
  intro pins s σ H vs us Q I rel pre
  obtain ⟨a, d, rfl, dp, sh, nd, dep, small, q⟩ := pre
  rw [Vals.ref1 rel]
  obtain ⟨as, rd⟩ := Dp.reads I _ _ _ dp rfl
  exact str_of_reads rd sh (fun z => by rw [nd] at z; cases z) gd (by omega) (fun _ _ z => z) (fun h' u tk keep => ⟨.str _, H, I.kept keep, ⟨u, rfl⟩, q⟩) small
theorem cr_strDK {X : Cx} {K : PySem.W.Frag} (h : X.K = K) (gd : X.A.guards = some []) (hu : X.A.units + 64 < cLine) : CallR X (.type "str") (rStrD K) := by subst h; exact cr_strD gd hu
end
/-! ### data that can be shown -/
structure Sh (n : Nat) (d : PyData) : Prop where
  ok : d.showable = true
  nd : d.hasDict = false
  len : d.shown.length ≤ n
theorem Sh.mono {n m : Nat} {d : PyData} (h : Sh n d) (k : n ≤ m) : Sh m d := ⟨h.ok, h.nd, Nat.le_trans h.len k⟩
theorem Sh.int {i : Int} (h : i.natAbs < 10 ^ 12) : Sh 13 (.int i) := by
  refine ⟨?_, by simp [PyData.hasDict], PyData.shown_int_le h⟩
  simp only [PyData.showable, decide_eq_true_eq]
  refine log2_small (Nat.lt_trans h ?_)
  exact Nat.lt_trans (by decide : 10 ^ 12 < 2 ^ 64) (Nat.pow_lt_pow_right (by decide) (by decide))
theorem shw_all {n : Nat} : ∀ {xs : List PyData}, (∀ x ∈ xs, Sh n x) → PyData.showableAll xs = true ∧ PyData.hasDictAll xs = false ∧ ((PyData.shownAll xs).map (·.length)).sum ≤ n * xs.length
  | [], _ => ⟨by simp [PyData.showableAll], by simp [PyData.hasDictAll], by simp [PyData.shownAll]⟩
  | x :: r, h => by
    obtain ⟨h1, h2, h3⟩ := shw_all (xs := r) fun y hy => h y (List.mem_cons_of_mem _ hy)
    have hx := h x List.mem_cons_self
    refine ⟨by simp [PyData.showableAll, hx.ok, h1], by simp [PyData.hasDictAll, hx.nd, h2], ?_⟩
    rw [PyData.shownAll_cons, List.map_cons, List.sum_cons, List.length_cons, Nat.mul_add, Nat.mul_one]
    have := hx.len
    omega
theorem Sh.list {n : Nat} {xs : List PyData} (h : ∀ x ∈ xs, Sh n x) : Sh (n * xs.length + 2 * xs.length + 3) (.list xs) := by
  obtain ⟨h1, h2, h3⟩ := shw_all h
  refine ⟨by simp [PyData.showable, h1], by simp [PyData.hasDict, h2], ?_⟩
  have := listText_len_le (PyData.shownAll xs)
  rw [PyData.shownAll_length] at this
  show (PyData.list xs).shown.length ≤ _
  rw [PyData.shown_list, ← listText_eq_join]
  omega
theorem Sh.tuple {n : Nat} {xs : List PyData} (h : ∀ x ∈ xs, Sh n x) : Sh (n * xs.length + 2 * xs.length + 3) (.tuple xs) := by
  obtain ⟨h1, h2, h3⟩ := shw_all h
  refine ⟨by simp [PyData.showable, h1], by simp [PyData.hasDict, h2], ?_⟩
  have := tupleText_len_le (PyData.shownAll xs)
  rw [PyData.shownAll_length] at this
  have e : (PyData.tuple xs).shown = tupleText (PyData.shownAll xs) := by simp only [PyData.shown]
  rw [e]
  omega
theorem Sh.ints {m : Nat} {ns : List Int} (h : ∀ n ∈ ns, n.natAbs < 10 ^ 12) (hl : ns.length ≤ m) : Sh (15 * m + 3) (.list (ns.map PyData.int)) := by
  refine (Sh.list (n := 13) fun x hx => ?_).mono ?_
  · obtain ⟨n, hn, rfl⟩ := List.mem_map.mp hx
    exact Sh.int (h n hn)
  · rw [List.length_map]
    omega
theorem Sh.word {x : Str} (h : x = "pack" ∨ x = "many" ∨ x = "add") : Sh 13 (.str x) := by
  refine ⟨by simp [PyData.showable], by simp [PyData.hasDict], ?_⟩
  rw [PyData.shown_str]
  rcases h with rfl | rfl | rfl <;> decide +kernel
theorem Small.abs {ws : List Int} (h : Small ws) : ∀ n ∈ ws, n.natAbs < 10 ^ 12 := fun n hn => by
  have := h n hn
  omega
theorem sh_ofr {m : Nat} {os : List Ofr} {i : Nat} {o : Ofr} (h8 : os.length ≤ 8) (hm : m ≤ 4) (g : GoodO os i o) (f : FitO m o) (hi : i < 8) : Sh 1000 (dOfr o) := by
  have cts : ∀ {c : List Int}, c.length = m → Small c → Sh 200 (dInts c) := fun {c} hl sm => (Sh.ints (m := 4) sm.abs (by omega)).mono (by decide)
  have pr : ∀ {p : Int}, 0 ≤ p → p < 1000000000000 → Sh 200 (.int p) := fun {p} h0 h1 => (Sh.int (by omega)).mono (by decide)
  cases o with
  | pack c p =>
    obtain ⟨h1, h2, h3, h4⟩ := f
    refine (Sh.tuple (n := 200) fun x hx => ?_).mono (by show 200 * 3 + 2 * 3 + 3 ≤ 1000; decide)
    simp only [List.mem_cons, List.not_mem_nil, or_false] at hx
    rcases hx with rfl | rfl | rfl
    · exact (Sh.word (.inl rfl)).mono (by decide)
    · exact cts h1 h2.1
    · exact pr h3 h4
  | add c p k =>
    obtain ⟨h1, h2, h3, h4⟩ := f
    obtain ⟨j, ej, hj, _⟩ := g
    refine (Sh.tuple (n := 200) fun x hx => ?_).mono (by show 200 * 4 + 2 * 4 + 3 ≤ 1000; decide)
    simp only [List.mem_cons, List.not_mem_nil, or_false] at hx
    rcases hx with rfl | rfl | rfl | rfl
    · exact (Sh.word (.inr (.inr rfl))).mono (by decide)
    · exact cts h1 h2.1
    · exact pr h3 h4
    · exact pr (by omega) (by omega)
  | many c ts =>
    obtain ⟨h1, h2, h3⟩ := f
    have g' : GoodT ts := g
    have few := g'.few
    refine (Sh.tuple (n := 200) fun x hx => ?_).mono (by show 200 * 3 + 2 * 3 + 3 ≤ 1000; decide)
    simp only [List.mem_cons, List.not_mem_nil, or_false] at hx
    rcases hx with rfl | rfl | rfl
    · exact (Sh.word (.inr (.inl rfl))).mono (by decide)
    · exact cts h1 h2.1
    · refine (Sh.list (n := 40) fun x hx => ?_).mono ?_
      · obtain ⟨t, ht, rfl⟩ := List.mem_map.mp hx
        have p := h3 t ht
        have q := g'.most t ht
        have q1 := g'.ge1 t ht
        refine (Sh.tuple (n := 13) fun x hx => ?_).mono (by show 13 * 2 + 2 * 2 + 3 ≤ 40; decide)
        simp only [List.mem_cons, List.not_mem_nil, or_false] at hx
        rcases hx with rfl | rfl
        · exact Sh.int (by omega)
        · exact Sh.int (by omega)
      · rw [List.length_map]
        omega
theorem sh_shop {m : Nat} {os : List Ofr} (gd : Good os) (ft : FitS m os) (hm : m ≤ 4) : Sh 10000 (dShop os) := by
  have h8 := gd.1
  refine (Sh.list (n := 1000) fun x hx => ?_).mono ?_
  · obtain ⟨o, ho, rfl⟩ := List.mem_map.mp hx
    obtain ⟨i, hi, e⟩ := List.getElem_of_mem ho
    exact sh_ofr h8 hm (gd.2 i o (by rw [List.getElem?_eq_getElem hi, e])) (ft o ho) (by omega)
  · rw [List.length_map]
    omega
theorem LineOk.places8 {os : List Ofr} {l : Ln} (h8 : os.length ≤ 8) (h : LineOk os l) : (0 ≤ l.p ∧ l.p < 8 ∧ 1 ≤ l.c ∧ l.c ≤ 12) ∧ l.as.length ≤ 8 ∧ ∀ x ∈ l.as, 0 ≤ x ∧ x < 8 := by
  obtain ⟨p, ep, ways⟩ := h
  rcases ways with ⟨c, ts, w1, _, w2, w3, w4⟩ | ⟨c, pr, w1, w2, w3, w4⟩
  · have := (List.getElem?_eq_some_iff.mp w1).1
    exact ⟨⟨by omega, by omega, w2, w3⟩, by rw [w4]; decide, fun x hx => by rw [w4] at hx; cases hx⟩
  · have := (List.getElem?_eq_some_iff.mp w1).1
    refine ⟨⟨by omega, by omega, by omega, by omega⟩, w3, fun x hx => ?_⟩
    obtain ⟨j, rfl, _, _, _, hj⟩ := w4 x hx
    have := (List.getElem?_eq_some_iff.mp hj).1
    omega
theorem sh_line {os : List Ofr} {l : Ln} (h8 : os.length ≤ 8) (lk : LineOk os l) : Sh 1000 (dLine l) := by
  obtain ⟨h1, h2⟩ := lk.places8 h8
  refine (Sh.tuple (n := 200) fun x hx => ?_).mono (by show 200 * 3 + 2 * 3 + 3 ≤ 1000; decide)
  simp only [List.mem_cons, List.not_mem_nil, or_false] at hx
  rcases hx with rfl | rfl | rfl
  · exact (Sh.int (by omega)).mono (by decide)
  · exact (Sh.int (by omega)).mono (by decide)
  · exact (Sh.ints (m := 8) (fun n hn => by have := h2.2 n hn; omega) h2.1).mono (by decide)
theorem same_upd_tup {H : Hp} {x a : Addr} {ys xs zs : List V} (hx : H x = some (.lst ys)) (h : H a = some (.tup zs)) : upd H x (.lst xs) a = some (.tup zs) := by
  rw [upd_ne (ne_of h hx (fun z => nomatch z))]
  exact h
def sp_right (T : List Addr) : Sp := fun vs H Q _ => ∃ (q s : Addr) (H0 : Hp) (us : List Addr) (os : List Ofr) (Ss : List (List Addr)) (m : Nat), vs = [.ref q, .ref s] ∧ Ext T H0 H ∧ Told H0 H q us os Ss ∧ ShopAt H0 s os ∧ Good os ∧ FitS m os ∧ m ≤ 4 ∧
  ∀ H', Ext T H0 H' → H' q = some (.lst (us.map V.ref)) → Q (.bl true) H'
section
variable {P : Program} {w : World} {K : PySem.W.Frag} {mg : Str → Option Value} {base : Heap} {T : List Addr}
theorem ok_right {f : Addr} {fd : FuncData} {k : Nat} (M : Names mg) (D : Def K mg "_law_right" s_law_right ["_law_found", "_law_shop_here"] f fd) : FnOkG P w K mg base (k + 1) f fd ["_law_found", "_law_shop_here"] (sp_right T) := by
  refine okG D.F sc_law_right (fun vs H Q E h => ?_) (fun cdv A outer s H vs Q E gd hr h => ?_)
  · obtain ⟨q, s, H0, us, os, Ss, m, rfl, _⟩ := h
    rfl
  · obtain ⟨q, s, H0, us, os, Ss, m, rfl, E0, td, hS, good, ft, hm, fin⟩ := h
    have h8 := good.1
    obtain ⟨vs, h1, h2, h3⟩ := id hS
    refine ⟨_, (pss_cons (ps_if (PW.pt (pw_or (pt_not (pt_val (pe_callB call_isi (by rfl) M.isinstance (by decide +kernel) (pa_cons (pv 0) (pa_cons (pe_bltn (v := .ty "list") (by rfl) M.list (by decide +kernel) rfl) pa_nil))))) (pw_or1 (pt_cmpR op_ne (pe_callB call_len_seq (by rfl) M.len (by decide +kernel) (pa_cons (pv 0) pa_nil)) (pe_callB call_len_seq (by rfl) M.len (by decide +kernel) (pa_cons (pv 1) pa_nil)) (nomark _)))))
   (pss_one (ps_ret pe_bl))
   pss_nil)
  (pss_cons (ps_for PassesOwn.never rfl (pi_range1 (by rfl) M.range (pa_cons (pe_callB call_len_seq (by rfl) M.len (by decide +kernel) (pa_cons (pv 1) pa_nil)) pa_nil)) (pg_name (i := 2) sc_law_right.nd rfl (Or.inl rfl))
   (pss_cons (ps_if (pt_cmpR op_ne (pe_callTy (cr_strD gd hr.units) (by rfl) M.str (by decide +kernel) (pa_cons (pe_ix ix_list (pv 0) (pv 2) (fun _ _ => rfl)) pa_nil)) (pe_callTy (cr_strD gd hr.units) (by rfl) M.str (by decide +kernel) (pa_cons (pe_ix ix_list (pv 1) (pv 2) (fun _ _ => rfl)) pa_nil)) (nomark _))
   (pss_one (ps_ret pe_bl))
   pss_nil)
  (pss_cons (ps_expr (pe_bm PySem.F.plainAttrs_list PySem.F.slot_list_append PySem.F.type_list_append mt_append (pe_ix ix_tup (pe_ix ix_list (pv 0) (pv 2) (fun _ _ => rfl)) pe_int (fun _ _ => rfl)) (pa_cons pe_int pa_nil)))
  (pss_one (ps_if (pt_cmpR op_eq (pe_ix ix_tup (pe_ix ix_list (pv 1) (pv 2) (fun _ _ => rfl)) pe_int (fun _ _ => rfl)) pe_str (nomark _))
   (pss_one (ps_expr (pe_bm PySem.F.plainAttrs_list PySem.F.slot_list_append PySem.F.type_list_append mt_append (pe_ix ix_tup (pe_ix ix_list (pv 0) (pv 2) (fun _ _ => rfl)) pe_int (fun _ _ => rfl)) (pa_cons (pe_tup pa_nil) pa_nil))))
   pss_nil)))))
  (pss_one (ps_ret pe_bl)))), ?_⟩
    refine ⟨_, rfl, _, _, _, _, true, rfl, .ty "list", .base (.lst td.atq), kit_ty (by decide +kernel), true, rfl, ?_⟩
    refine ⟨_, rfl, q, _, rfl, .inl (SqL.of td.atq), _, rfl, s, _, rfl, .inl (SqL.of (E0.lst h1)), rfl, false, by rw [List.length_map, List.length_map, td.len, h2]; simp, ?_⟩
    refine ⟨_, rfl, s, _, rfl, .inl (SqL.of (E0.lst h1)), _, rfl, by omega, by rw [List.length_map]; omega, for_range (n := (((vs.map V.ref).length : Nat) : Int).toNat) (fun i σ H' => ∃ y2, σ = [some (.ref q), some (.ref s), y2] ∧ Ext T H0 H' ∧ H' q = some (.lst (us.map V.ref)) ∧ ∀ (j : Nat) v o S, i ≤ j → us[j]? = some v → os[j]? = some o → Ss[j]? = some S → OwnO H' v o S) ⟨none, rfl, E0, td.atq, fun j v o S _ => td.each j v o S⟩ (fun i σ H1 hi hp => ?_) (fun σ H1 hp => ?_)⟩
    · obtain ⟨y2, rfl, E1, hq1, ow1⟩ := hp
      rw [Int.toNat_natCast, List.length_map, h2] at hi
      have gu := List.getElem?_eq_getElem (show i < us.length by rw [td.len]; exact hi)
      have go := List.getElem?_eq_getElem hi
      have gS := List.getElem?_eq_getElem (show i < Ss.length by rw [td.lenS]; exact hi)
      have gu3 : (us.map V.ref)[i]? = some (.ref (us[i]'(by rw [td.len]; exact hi))) := by rw [List.getElem?_map, gu]; rfl
      obtain ⟨v2, o2, k1, k2, k3⟩ := ShopAt.get (H := H0) (a := s) h2 hi
      have eo := Option.some.inj (k2.symm.trans go)
      have ow := ow1 i _ _ _ (Nat.le_refl _) gu go gS
      have sh := sh_ofr h8 hm (good.2 i _ go) (ft _ (List.getElem_mem hi)) (by omega)
      have dep := depth_ofr os[i]
      have at2 := (h3 i v2 o2 k1 k2).ext E1
      rw [eo] at at2
      have apart := fun (j : Nat) (S' : List Addr) (hj : i < j) => td.apart i j _ S' hj gS
      have newS := td.new _ (List.getElem_mem (show i < Ss.length by rw [td.lenS]; exact hi))
      have nqS := td.nq _ (List.getElem_mem (show i < Ss.length by rw [td.lenS]; exact hi))
      have sl : (dOfr os[i]).shown.length ≤ sizeLine := Nat.le_trans sh.len (by decide)
      have ndS := td.nd _ (List.getElem_mem (show i < Ss.length by rw [td.lenS]; exact hi))
      generalize us[i]'(by rw [td.len]; exact hi) = v at gu gu3 ow
      generalize Ss[i]'(by rw [td.lenS]; exact hi) = S at gS ow newS nqS apart ndS
      refine ⟨_, rfl, _, rfl, q, _, _, _, rfl, rfl, SqL.of hq1, at_of (Int.zero_add _) gu3, v, _, rfl, ow.at.dp, sh.ok, sh.nd, by omega, sl, _, rfl, _, rfl, s, _, _, _, rfl, rfl, SqL.of (E1.lst h1), at_of (Int.zero_add _) k3, v2, _, rfl, at2.dp, sh.ok, sh.nd, by omega, sl, rfl, false, by simp, ?_⟩
      -- one more number in the told contents
      have next : ∀ (H2 : Hp) (x : Addr) (ys zs : List V), Ext T H0 H2 → H2 q = some (.lst (us.map V.ref)) → (∀ (j : Nat) v o S, i + 1 ≤ j → us[j]? = some v → os[j]? = some o → Ss[j]? = some S → OwnO H2 v o S) → x ∈ S → H2 x = some (.lst ys) →
          Ext T H0 (upd H2 x (.lst zs)) ∧ upd H2 x (.lst zs) q = some (.lst (us.map V.ref)) ∧ ∀ (j : Nat) v o S, i + 1 ≤ j → us[j]? = some v → os[j]? = some o → Ss[j]? = some S → OwnO (upd H2 x (.lst zs)) v o S := by
        intro H2 x ys zs E2 hq2 ow2 hx hx2
        refine ⟨E2.new (newS x hx), ?_, fun j v o S' hj a b c => (ow2 j v o S' hj a b c).upd hx2 (apart j S' (by omega) c x hx)⟩
        rw [upd_ne (fun e : q = x => nqS (by rw [e]; exact hx))]
        exact hq2
      have ow1' : ∀ (j : Nat) v o S, i + 1 ≤ j → us[j]? = some v → os[j]? = some o → Ss[j]? = some S → OwnO H1 v o S := fun j v o S hj => ow1 j v o S (by omega)
      cases ho : os[i] with
      | pack c p =>
        rw [ho] at ow at2
        obtain ⟨b, e0, hv, hb⟩ := ow
        have hbS : b ∈ S := by rw [e0]; exact List.mem_cons_self
        have cl : c.length ≤ 1000 := by have := (ft _ (List.getElem_mem hi)).cont.1; rw [ho] at this; have : c.length = m := this; omega
        obtain ⟨b2, hv2, _⟩ := at2
        refine ⟨_, rfl, _, rfl, q, _, _, _, rfl, rfl, SqL.of hq1, at_of (Int.zero_add _) gu3, v, _, _, _, rfl, rfl, SqT.of hv, atI_nat (j := 1) rfl, .inl ⟨rfl, _, SqL.of hb⟩, b, _, _, rfl, rfl, hb, szL' (by rw [List.length_map]; omega), ?_⟩
        obtain ⟨E2, hq2, ow2⟩ := next H1 b _ (c.map V.int ++ [.int 0]) E1 hq1 ow1' hbS hb
        have hv2' := (same_upd_tup (xs := c.map V.int ++ [.int 0]) hb hv2)
        refine ⟨_, rfl, _, rfl, s, _, _, _, rfl, rfl, SqL.of (E2.lst h1), at_of (Int.zero_add _) k3, v2, _, _, _, rfl, rfl, SqT.of hv2', atI_nat (j := 0) rfl, rfl, false, rfl, ?_⟩
        exact ⟨_, rfl, E2, hq2, ow2⟩
      | add c p kk =>
        rw [ho] at ow at2
        obtain ⟨b, e0, hv, hb⟩ := ow
        have hbS : b ∈ S := by rw [e0]; exact List.mem_cons_self
        have cl : c.length ≤ 1000 := by have := (ft _ (List.getElem_mem hi)).cont.1; rw [ho] at this; have : c.length = m := this; omega
        obtain ⟨b2, hv2, _⟩ := at2
        refine ⟨_, rfl, _, rfl, q, _, _, _, rfl, rfl, SqL.of hq1, at_of (Int.zero_add _) gu3, v, _, _, _, rfl, rfl, SqT.of hv, atI_nat (j := 1) rfl, .inl ⟨rfl, _, SqL.of hb⟩, b, _, _, rfl, rfl, hb, szL' (by rw [List.length_map]; omega), ?_⟩
        obtain ⟨E2, hq2, ow2⟩ := next H1 b _ (c.map V.int ++ [.int 0]) E1 hq1 ow1' hbS hb
        have hv2' := (same_upd_tup (xs := c.map V.int ++ [.int 0]) hb hv2)
        refine ⟨_, rfl, _, rfl, s, _, _, _, rfl, rfl, SqL.of (E2.lst h1), at_of (Int.zero_add _) k3, v2, _, _, _, rfl, rfl, SqT.of hv2', atI_nat (j := 0) rfl, rfl, false, rfl, ?_⟩
        exact ⟨_, rfl, E2, hq2, ow2⟩
      | many c ts =>
        rw [ho] at ow at2
        obtain ⟨b, t, e0, hv, hb, ut, ht1, ht2, ht3⟩ := ow
        have hbS : b ∈ S := by rw [e0]; exact List.mem_cons_self
        have htS : t ∈ S := by rw [e0]; exact List.mem_cons_of_mem _ List.mem_cons_self
        have cl : c.length ≤ 1000 := by have := (ft _ (List.getElem_mem hi)).cont.1; rw [ho] at this; have : c.length = m := this; omega
        have tl4 : ts.length ≤ 4 := by have := good.2 i _ go; rw [ho] at this; have g' : GoodT ts := this; exact g'.few
        have nbt : t ≠ b := fun e => by
          rw [e0] at ndS
          exact (List.nodup_cons.mp ndS).1 (by rw [e]; exact List.mem_cons_self)
        obtain ⟨b2, t2, hv2, _⟩ := at2
        refine ⟨_, rfl, _, rfl, q, _, _, _, rfl, rfl, SqL.of hq1, at_of (Int.zero_add _) gu3, v, _, _, _, rfl, rfl, SqT.of hv, atI_nat (j := 1) rfl, .inl ⟨rfl, _, SqL.of hb⟩, b, _, _, rfl, rfl, hb, szL' (by rw [List.length_map]; omega), ?_⟩
        obtain ⟨E2, hq2, ow2⟩ := next H1 b _ (c.map V.int ++ [.int 0]) E1 hq1 ow1' hbS hb
        have hv2' := (same_upd_tup (xs := c.map V.int ++ [.int 0]) hb hv2)
        have hv' := (same_upd_tup (xs := c.map V.int ++ [.int 0]) hb hv)
        have ht' : upd H1 b (.lst (c.map V.int ++ [.int 0])) t = some (.lst (ut.map V.ref)) := by rw [upd_ne nbt]; exact ht1
        generalize upd H1 b (.lst (c.map V.int ++ [.int 0])) = H2 at E2 hq2 ow2 hv2' hv' ht' ⊢
        refine ⟨_, rfl, _, rfl, s, _, _, _, rfl, rfl, SqL.of (E2.lst h1), at_of (Int.zero_add _) k3, v2, _, _, _, rfl, rfl, SqT.of hv2', atI_nat (j := 0) rfl, rfl, true, rfl, ?_⟩
        refine ⟨_, rfl, _, rfl, q, _, _, _, rfl, rfl, SqL.of hq2, at_of (Int.zero_add _) gu3, v, _, _, _, rfl, rfl, SqT.of hv', atI_nat (j := 2) rfl, .inl ⟨rfl, _, SqL.of ht'⟩, by decide, fun e ne => ?_⟩
        have se := same_upd (o := .tup []) ne
        have ht'' := se _ _ ht'
        refine ⟨t, _, _, rfl, rfl, ht'', szL' (by rw [List.length_map]; omega), ?_⟩
        have Ee : Ext T H0 (upd H2 e (.tup [])) := E2.new (E2.free _ ne)
        obtain ⟨E3, hq3, ow3⟩ := next (upd H2 e (.tup [])) t _ (ut.map V.ref ++ [.ref e]) Ee (se _ _ hq2) (fun j v o S hj a b c => (ow2 j v o S hj a b c).ext (T := T) (.same se E2.t1)) htS ht''
        exact ⟨_, rfl, E3, hq3, ow3⟩
    · obtain ⟨y2, rfl, E1, hq1, _⟩ := hp
      exact fin H1 E1 hq1
end
/-! ### the law -/
abbrev s_law : Stmt := topS 46
abbrev N_law : List Str := ["_law_script", "_law_draws_here", "_law_many", "_law_names_here", "_law_shop_here", "_law_handed", "_law_due", "_law_again", "_law_found", "_law_told", "_law_offer", "_law_text"]
theorem sc_law : FnScope N_law ["_law_script"] (defScope s_law) := ⟨rfl, rfl, rfl, by decide +kernel, rfl, by decide +kernel, by decide +kernel⟩

theorem call_isiK {X : Cx} {K : PySem.W.Frag} (h : X.K = K) : CallR X (.builtin "isinstance") (rIsi K) := by subst h; exact call_isi
theorem shaped_both {xs : List Str} {os : List Ofr} (h : ∀ x ∈ xs, Signs x) : SeqAt.shaped (.list [.list (xs.map PyData.str), dShop os]) = true := by
  unfold SeqAt.shaped
  have a := lay_strs xs h
  have b := lay_ofrs os
  have c := depth_strs xs
  have d := depth_ofrs os
  have h1 : PyData.canLay0 (.list [.list (xs.map PyData.str), dShop os]) = true := by
    simp [PyData.canLay0, PyData.canLayAll0, a, b]
  have h2 : PyData.depth (.list [.list (xs.map PyData.str), dShop os]) ≤ 64 := by
    simp only [PyData.depth, PyData.depthAll, c]
    omega
  rw [h1, decide_eq_true h2]
  rfl
/-- the signs of an offer's text -/
theorem num_signs (n : Nat) : Signs (numS n) := fun c hc => by
  rw [tl_numS] at hc
  have : ¬ (c < 48 ∨ 57 < c) := fun z => TL.numL_free z hc
  omega
theorem Signs.app {x y : Str} (h : Signs x) (k : Signs y) : Signs (x ++ y) := fun c hc => by
  rw [TL.tl_append] at hc
  exact (List.mem_append.mp hc).elim (h c) (k c)
theorem show_ok {xs : List Str} (g : GoodN xs) (c : List Int) : Signs (showM xs c) := fun d hd => by
  have := show_signs g d hd
  omega
theorem word_signs : Signs (" for " : Str) ∧ Signs (": " : Str) ∧ Signs ("many " : Str) ∧ Signs ("with " : Str) ∧ Signs (", " : Str) := by
  unfold Signs
  decide +kernel
theorem sold_signs {xs : List Str} (g : GoodN xs) (c : List Int) (p : Int) : Signs (soldS xs c p) := ((show_ok g c).app word_signs.1).app (num_signs _)
theorem tiers_signs : ∀ ts : List (Int × Int), Signs (tiersS ts)
  | [] => fun c hc => by cases hc
  | [t] => (((num_signs _).app word_signs.1).app (num_signs _) : Signs (tierS t))
  | t :: u :: r => by
    have h : Signs (tierS t ++ (", " : Str) ++ tiersS (u :: r)) := ((((num_signs _).app word_signs.1).app (num_signs _) : Signs (tierS t)).app word_signs.2.2.2.2).app (tiers_signs (u :: r))
    exact h
theorem offer_signs {xs : List Str} (g : GoodN xs) : ∀ o : Ofr, Signs (offerS xs o)
  | .pack c p => sold_signs g c p
  | .many c ts => word_signs.2.2.1.app (((show_ok g c).app word_signs.2.1).app (tiers_signs ts))
  | .add c p k => word_signs.2.2.2.1.app (((num_signs _).app word_signs.2.1).app (sold_signs g c p))
theorem offers_signs {xs : List Str} (g : GoodN xs) (os : List Ofr) : ∀ x ∈ os.map (offerS xs), Signs x := fun x hx => by
  obtain ⟨o, _, rfl⟩ := List.mem_map.mp hx
  exact offer_signs g o
def sp_law (K : PySem.W.Frag) (t1 t2 : Addr) : Sp := fun vs H Q _ => ∃ (a : Addr) (ns : List Int), vs = [.ref a] ∧ SqL K H a (ns.map V.int) ∧ ns.length ≤ 63 ∧ GxR.TabG H t1 ∧ GxR.TabG H t2 ∧ ∀ H', Q (.bl true) H'
section
variable {P : Program} {w : World} {K : PySem.W.Frag} {mg : Str → Option Value} {base : Heap}
theorem ok_law {f f_names_pack f_good_tiers f_can_stand f_look f_show_content f_show_offer f_show_shop f_made_of f_read_number f_within_bounds f_read_thing f_read_content f_read_goods f_read_sold f_read_tier f_read_many f_read_add f_read_offer f_read_shop f_law_draws f_law_pop f_law_want f_law_cases f_law_content f_law_price f_law_tiers f_law_shop f_law_copied f_law_names f_law_content_text f_law_offer_text f_law_right c1 t1 c2 t2 : Addr} {fd fd_names_pack fd_good_tiers fd_can_stand fd_look fd_show_content fd_show_offer fd_show_shop fd_made_of fd_read_number fd_within_bounds fd_read_thing fd_read_content fd_read_goods fd_read_sold fd_read_tier fd_read_many fd_read_add fd_read_offer fd_read_shop fd_law_draws fd_law_pop fd_law_want fd_law_cases fd_law_content fd_law_price fd_law_tiers fd_law_shop fd_law_copied fd_law_names fd_law_content_text fd_law_offer_text fd_law_right : FuncData} (M : Names mg) (D : Def K mg "law" s_law ["_law_script"] f fd)
    (D_names_pack : Def K mg "names_pack" s_names_pack ["shop", "at"] f_names_pack fd_names_pack)
    (D_good_tiers : Def K mg "good_tiers" s_good_tiers ["tiers"] f_good_tiers fd_good_tiers)
    (D_can_stand : Def K mg "can_stand" s_can_stand ["shop", "at"] f_can_stand fd_can_stand)
    (D_look : Def K mg "look" s_look ["shop"] f_look fd_look)
    (D_show_content : Def K mg "show_content" s_show_content ["names", "content"] f_show_content fd_show_content)
    (D_show_offer : Def K mg "show_offer" s_show_offer ["names", "offer"] f_show_offer fd_show_offer)
    (D_show_shop : Def K mg "show_shop" s_show_shop ["names", "shop"] f_show_shop fd_show_shop)
    (D_made_of : Def K mg "made_of" s_made_of ["signs", "text", "most"] f_made_of fd_made_of)
    (D_read_number : Def K mg "read_number" s_read_number ["text", "figures"] f_read_number fd_read_number)
    (D_within_bounds : Def K mg "within_bounds" s_within_bounds ["content"] f_within_bounds fd_within_bounds)
    (D_read_thing : Def K mg "read_thing" s_read_thing ["names", "text"] f_read_thing fd_read_thing)
    (D_read_content : Def K mg "read_content" s_read_content ["names", "text"] f_read_content fd_read_content)
    (D_read_goods : Def K mg "read_goods" s_read_goods ["names", "text"] f_read_goods fd_read_goods)
    (D_read_sold : Def K mg "read_sold" s_read_sold ["names", "text"] f_read_sold fd_read_sold)
    (D_read_tier : Def K mg "read_tier" s_read_tier ["text"] f_read_tier fd_read_tier)
    (D_read_many : Def K mg "read_many" s_read_many ["names", "text"] f_read_many fd_read_many)
    (D_read_add : Def K mg "read_add" s_read_add ["names", "text"] f_read_add fd_read_add)
    (D_read_offer : Def K mg "read_offer" s_read_offer ["names", "text"] f_read_offer fd_read_offer)
    (D_read_shop : Def K mg "read_shop" s_read_shop ["names", "rows"] f_read_shop fd_read_shop)
    (D_law_draws : Def K mg "_law_draws" s_law_draws ["_law_script", "_law_turn", "_law_many"] f_law_draws fd_law_draws)
    (D_law_pop : Def K mg "_law_pop" s_law_pop ["_law_draws_here"] f_law_pop fd_law_pop)
    (D_law_want : Def K mg "_law_want" s_law_want ["_law_draws_here", "_law_many"] f_law_want fd_law_want)
    (D_law_cases : Def K mg "_law_cases" s_law_cases ["_law_want_here"] f_law_cases fd_law_cases)
    (D_law_content : Def K mg "_law_content" s_law_content ["_law_draws_here", "_law_many"] f_law_content fd_law_content)
    (D_law_price : Def K mg "_law_price" s_law_price ["_law_draws_here"] f_law_price fd_law_price)
    (D_law_tiers : Def K mg "_law_tiers" s_law_tiers ["_law_draws_here"] f_law_tiers fd_law_tiers)
    (D_law_shop : Def K mg "_law_shop" s_law_shop ["_law_draws_here", "_law_many", "_law_most"] f_law_shop fd_law_shop)
    (D_law_copied : Def K mg "_law_copied" s_law_copied ["_law_shop_here"] f_law_copied fd_law_copied)
    (D_law_names : Def K mg "_law_names" s_law_names ["_law_draws_here", "_law_many"] f_law_names fd_law_names)
    (D_law_content_text : Def K mg "_law_content_text" s_law_content_text ["_law_names_here", "_law_content_here"] f_law_content_text fd_law_content_text)
    (D_law_offer_text : Def K mg "_law_offer_text" s_law_offer_text ["_law_names_here", "_law_offer"] f_law_offer_text fd_law_offer_text)
    (D_law_right : Def K mg "_law_right" s_law_right ["_law_found", "_law_shop_here"] f_law_right fd_law_right)
    (hc1 : fd_good_tiers.code = .ref c1) (TB1 : GxR.TabB base mg c1 t1) (hc2 : fd_made_of.code = .ref c2) (TB2 : GxR.TabB base mg c2 t2) :
    FnOkG P w K mg base 10 f fd ["_law_script"] (sp_law K t1 t2) := by
  have m1 : t1 ∈ [t1, t2] := List.mem_cons_self
  have m2 : t2 ∈ [t1, t2] := List.mem_cons_of_mem _ List.mem_cons_self
  have RC : ∀ k, FnOk P w K mg base CX0 (k + 4) f_read_content fd_read_content ["names", "text"] (sp_read_content [t1, t2]) := fun k => ok_read_content M D_read_content D_read_thing D_show_content D_within_bounds D_read_number D_made_of hc2 TB2 m2
  have RN : ∀ k, FnOk P w K mg base CX0 (k + 2) f_read_number fd_read_number ["text", "figures"] (sp_read_number [t1, t2]) := fun k => ok_read_number M D_read_number D_made_of hc2 TB2 m2
  have RG : ∀ k, FnOk P w K mg base CX0 (k + 5) f_read_goods fd_read_goods ["names", "text"] (sp_read_goods [t1, t2]) := fun k => ok_read_goods M D_read_goods D_read_content (RC k)
  have RT : ∀ k, FnOk P w K mg base CX0 (k + 5) f_read_tier fd_read_tier ["text"] (sp_read_tier [t1, t2]) := fun k => ok_read_tier M D_read_tier D_read_number (RN (k + 2))
  have RS : ∀ k, FnOk P w K mg base CX0 (k + 6) f_read_sold fd_read_sold ["names", "text"] (sp_read_sold [t1, t2]) := fun k => ok_read_sold M D_read_sold D_read_goods (RG k) D_read_number (RN (k + 3))
  have RM : ∀ k, FnOk P w K mg base CX0 (k + 6) f_read_many fd_read_many ["names", "text"] (sp_read_many [t1, t2]) := fun k => ok_read_many M D_read_many D_read_goods (RG k) D_read_tier (RT k)
  have RA : ∀ k, FnOk P w K mg base CX0 (k + 7) f_read_add fd_read_add ["names", "text"] (sp_read_add [t1, t2]) := fun k => ok_read_add M D_read_add D_read_sold (RS k) D_read_number (RN (k + 4))
  have RO : ∀ k, FnOk P w K mg base CX0 (k + 8) f_read_offer fd_read_offer ["names", "text"] (sp_read_offer [t1, t2]) := fun k => ok_read_offer M D_read_offer D_read_many (RM (k + 1)) D_read_add (RA k) D_read_sold (RS (k + 1))
  have G_read_shop : FnOk P w K mg base CX0 9 f_read_shop fd_read_shop ["names", "rows"] (sp_read_shop [t1, t2]) := ok_read_shop M D_read_shop D_read_offer (RO 0)
  have G_show_shop : FnOk P w K mg base CX0 9 f_show_shop fd_show_shop ["names", "shop"] (sp_show_shop [t1, t2]) := ok_show_shop (k := 5) M D_show_shop D_show_offer D_show_content D_look D_can_stand D_names_pack D_good_tiers hc1 TB1 m1
  have G_law_draws : FnOk P w K mg base CX0 9 f_law_draws fd_law_draws ["_law_script", "_law_turn", "_law_many"] (sp_draws K) := ok_draws M D_law_draws
  have G_law_pop : FnOk P w K mg base CX0 9 f_law_pop fd_law_pop ["_law_draws_here"] sp_pop := ok_pop D_law_pop
  have G_law_names : FnOk P w K mg base CX0 9 f_law_names fd_law_names ["_law_draws_here", "_law_many"] sp_law_names := ok_law_names (k := 7) M D_law_names D_law_pop
  have G_law_shop : FnOk P w K mg base CX0 9 f_law_shop fd_law_shop ["_law_draws_here", "_law_many", "_law_most"] sp_shop := ok_shop (k := 5) M D_law_shop D_law_content D_law_price D_law_tiers D_law_want D_law_pop D_law_cases
  have G_law_copied : FnOk P w K mg base CX0 9 f_law_copied fd_law_copied ["_law_shop_here"] sp_copied := ok_copied M D_law_copied
  have G_law_offer_text : FnOk P w K mg base CX0 9 f_law_offer_text fd_law_offer_text ["_law_names_here", "_law_offer"] sp_show_offer := ok_law_offer_text (k := 7) M D_law_offer_text D_law_content_text
  have G_law_right : FnOkG P w K mg base 9 f_law_right fd_law_right ["_law_found", "_law_shop_here"] (sp_right [t1, t2]) := ok_right (k := 8) M D_law_right
  refine okG D.F sc_law (fun vs H Q E h => ?_) (fun cdv A outer s H vs Q E gd hr h => ?_)
  · obtain ⟨a, ns, rfl, _⟩ := h
    rfl
  · obtain ⟨a, ns, rfl, hS0, hlen, hT1, hT2, q⟩ := h
    have hT : Tb [t1, t2] H := fun t ht => by
      rcases List.mem_cons.mp ht with rfl | ht
      · exact hT1
      · rw [List.mem_singleton.mp ht]
        exact hT2
    refine ⟨_, (pss_cons (ps_set (i := 1) sc_law.nd rfl (Or.inl rfl) (pe_call G_law_draws hr (by rfl) D_law_draws.g D_law_draws.F.kp D_law_draws.b .nil pass0 (pa_cons (pv 0) (pa_cons pe_int (pa_cons pe_int pa_nil)))))
  (pss_cons (ps_set (i := 2) sc_law.nd rfl (Or.inl rfl) (pe_op op_add pe_int (pe_op op_mod (pe_call G_law_pop hr (by rfl) D_law_pop.g D_law_pop.F.kp D_law_pop.b .nil pass0 (pa_cons (pv 1) pa_nil)) pe_int)))
  (pss_cons (ps_set (i := 3) sc_law.nd rfl (Or.inr rfl) (pe_call G_law_names hr (by rfl) D_law_names.g D_law_names.F.kp D_law_names.b .nil pass0 (pa_cons (pv 1) (pa_cons (pv 2) pa_nil))))
  (pss_cons (ps_set (i := 4) sc_law.nd rfl (Or.inl rfl) (pe_call G_law_shop hr (by rfl) D_law_shop.g D_law_shop.F.kp D_law_shop.b .nil pass0 (pa_cons (pv 1) (pa_cons (pv 2) (pa_cons pe_int pa_nil)))))
  (pss_cons (ps_set (i := 5) sc_law.nd rfl (Or.inl rfl) (pe_lst (pa_cons (pe_callTy call_list_of (by rfl) M.list (by decide +kernel) (pa_cons (pv 3) pa_nil)) (pa_cons (pe_call G_law_copied hr (by rfl) D_law_copied.g D_law_copied.F.kp D_law_copied.b .nil pass0 (pa_cons (pv 4) pa_nil)) pa_nil))))
  (pss_cons (ps_setLc (i := 6) (own := [("_law_offer", 10)]) (by rfl) sc_law.nd rfl rfl (sw_true rfl rfl rfl (by decide +kernel)) (pi_list (pv 4)) (blkOk_by (own := [("_law_offer", 10)]) (N := N_law) (sc := defScope s_law) (by decide +kernel)) (fun _ _ _ _ _ => (pg_name (i := 10) sc_law.nd rfl (Or.inl rfl))) (fun _ _ _ _ _ => pts_nil) (fun _ _ _ _ _ => (pe_call G_law_offer_text hr (by rfl) D_law_offer_text.g D_law_offer_text.F.kp D_law_offer_text.b .nil pass0 (pa_cons (pv 3) (pa_cons (pv 10) pa_nil)))))
  (pss_cons (ps_for PassesOwn.never rfl (pi_range1 (by rfl) M.range (pa_cons pe_int pa_nil)) (pg_name (i := 7) sc_law.nd rfl (Or.inl rfl))
   (pss_cons (ps_set (i := 8) sc_law.nd rfl (Or.inl rfl) (pe_call G_show_shop hr (by rfl) D_show_shop.g D_show_shop.F.kp D_show_shop.b .nil pass0 (pa_cons (pe_ix ix_list (pv 5) pe_int (fun _ _ => rfl)) (pa_cons (pe_ix ix_list (pv 5) pe_int (fun _ _ => rfl)) pa_nil))))
  (pss_cons (ps_if (PW.pt (pw_or (pt_not (pt_val (pe_callB call_isi (by rfl) M.isinstance (by decide +kernel) (pa_cons (pv 8) (pa_cons (pe_bltn (v := .ty "list") (by rfl) M.list (by decide +kernel) rfl) pa_nil))))) (pw_or (pt_cmpR (op_neD hr.units) (pv 8) (pv 6) (nomark _)) (pw_or1 (pt_cmpR (op_neD hr.units) (pv 5) (pe_lst (pa_cons (pv 3) (pa_cons (pv 4) pa_nil))) (nomark _))))))
   (pss_one (ps_ret pe_bl))
   pss_nil)
  (pss_cons (ps_if (pt_cmpR (op_neD hr.units) (pe_lc (own := [("_law_text", 11)]) (by rfl) sc_law.nd (pi_list (pv 8)) (blkOk_by (own := [("_law_text", 11)]) (N := N_law) (sc := defScope s_law) (by decide +kernel)) (fun _ _ _ _ _ => (pg_name (i := 11) sc_law.nd rfl (Or.inl rfl))) (fun _ _ _ _ _ => (pts_one (pt_not (pt_val (pe_callB (call_isiK (K := K) rfl) (by rfl) M.isinstance (by decide +kernel) (pa_cons (pv 11) (pa_cons (pe_bltn (v := .ty "str") (by rfl) M.str (by decide +kernel) rfl) pa_nil))))))) (fun _ _ _ _ _ => (pv 11))) (pe_lst pa_nil) (nomark _))
   (pss_one (ps_ret pe_bl))
   pss_nil)
  (pss_cons (ps_set (i := 9) sc_law.nd rfl (Or.inl rfl) (pe_call G_read_shop hr (by rfl) D_read_shop.g D_read_shop.F.kp D_read_shop.b .nil pass0 (pa_cons (pe_ix ix_list (pv 5) pe_int (fun _ _ => rfl)) (pa_cons (pv 8) pa_nil))))
  (pss_cons (ps_if (PW.pt (pw_or (pt_cmpR (op_neD hr.units) (pv 8) (pv 6) (nomark _)) (pw_or (pt_not (pt_val (pe_callG gd G_law_right hr (by rfl) D_law_right.g D_law_right.F.kp D_law_right.b (pa_cons (pv 9) (pa_cons (pv 4) pa_nil)) pass0))) (pw_or1 (pt_cmpR (op_neD hr.units) (pe_ix ix_list (pv 5) pe_int (fun _ _ => rfl)) (pv 3) (nomark _))))))
   (pss_one (ps_ret pe_bl))
   pss_nil)
  (pss_cons (ps_expr (pe_bm PySem.F.plainAttrs_list PySem.F.slot_list_append PySem.F.type_list_append mt_append (pv 8) (pa_cons pe_str pa_nil)))
  (pss_one (ps_expr (pe_bm PySem.F.plainAttrs_list PySem.F.slot_list_append PySem.F.type_list_append mt_append (pv 9) (pa_cons (pe_tup pa_nil) pa_nil)))))))))))
  (pss_one (ps_ret (pe_cmpR (op_eqD hr.units) (pe_call G_read_shop hr (by rfl) D_read_shop.g D_read_shop.F.kp D_read_shop.b .nil pass0 (pa_cons (pv 3) (pa_cons (pe_lst pa_nil) pa_nil))) (pe_lst pa_nil) (nomark _))))))))))), ?_⟩
    refine ⟨_, rfl, a, ns, 2, 120, rfl, hS0, by omega, by omega, by omega, fun H1 d ds s1 nd hd => ?_⟩
    have hT1 : Tb [t1, t2] H1 := (Ext.same s1 hT).t1
    refine ⟨_, rfl, d, ds, rfl, hd, fun H2 s2 hd2 => ?_⟩
    generalize ds.headD 0 = x0
    generalize ds.tail = ds2 at hd2
    obtain ⟨m, hm1, hm4, em⟩ := draw4 x0
    refine ⟨_, _, rfl, rfl, (by show (0 : Int) < _; decide), _, _, rfl, rfl, ?_⟩
    refine ⟨_, rfl, _, rfl, d, _, m, by show [V.ref d, V.int (1 + x0 % 4)] = _; rw [em], hd2, hm1, hm4, fun H3 p xs ds3 s3 np npd hp hd3 hlx gN => ?_⟩
    refine ⟨_, rfl, _, rfl, d, _, m, 8, by show [V.ref d, V.int (1 + x0 % 4), V.int 8] = _; rw [em]; rfl, hd3, hm1, hm4, by decide, fun H4 S os ds4 s4 nS hS4 good ft h8 hd4 => ?_⟩
    have hT4 : Tb [t1, t2] H4 := fun t ht => tabG_but s4 hd3 (tabG_but s3 hd2 (tabG_but s2 hd (hT1 t ht)))
    have hp4 := s4 _ _ npd hp
    have sh4 : ShopAt H4 S os := hS4.same cut_le
    have ft' : FitS xs.length os := by rw [hlx]; exact ft
    have tell : ∀ o ∈ os, TellO xs o := fun o ho => by
      obtain ⟨i, hi, e⟩ := List.getElem_of_mem ho
      have h8 := good.1
      exact tell_of (by omega) (good.2 i o (by rw [List.getElem?_eq_getElem hi, e])) (ft' o ho)
    have rdo : ∀ o ∈ os, ReadO xs o := fun o ho => ⟨tell o ho, (tell o ho).cont, (ft' o ho).cont.2.2.1, (ft' o ho).cont.2.2.2⟩
    -- handed
    refine ⟨_, rfl, p, _, rfl, .inl (SqL.of hp4), fun h1 nh1 => ?_⟩
    have sA := same_upd (o := .lst (xs.map V.str)) nh1
    refine ⟨_, rfl, S, os, rfl, sh4.same sA, by omega, fun H5 cq s5 ncq _ hcq => ⟨by show 2 ≤ sizeLine; decide, fun hh nhh => ?_⟩⟩
    have sB := (sA.trans s5).trans (same_upd (o := .lst [.ref h1, .ref cq]) nhh)
    have e1 : upd H5 hh (.lst [.ref h1, .ref cq]) h1 = some (LS xs) := (same_upd nhh) _ _ (s5 _ _ upd_same)
    have e2 : ShopAt (upd H5 hh (.lst [.ref h1, .ref cq])) cq os := hcq.same (same_upd nhh)
    have e3 : upd H5 hh (.lst [.ref h1, .ref cq]) hh = some (.lst [.ref h1, .ref cq]) := upd_same
    generalize upd H5 hh (.lst [.ref h1, .ref cq]) = H6 at sB e1 e2 e3 ⊢
    have hp6 := sB _ _ hp4
    have sh6 := sh4.same sB
    have hT6 : Tb [t1, t2] H6 := (Ext.same sB hT4).t1
    -- due
    obtain ⟨vs, v1, v2, v3⟩ := id sh6
    refine ⟨_, rfl, S, rfl, ⟨_, SqL.of v1⟩, fun U nU => lc_list (xs := vs.map V.ref) (fun i H' => Same H6 H' ∧ H' U = some (LS ((os.take i).map (offerS xs)))) ⟨same_upd nU, upd_same⟩ (fun i H' _ hp => SqL.of (hp.1 _ _ v1)) (fun i x H7 hx hp => ?_) (fun H7 hp => ?_)⟩
    · obtain ⟨s7, hU⟩ := hp
      have hi : i < os.length := by
        have := (List.getElem?_eq_some_iff.mp hx).1
        rw [List.length_map] at this
        omega
      obtain ⟨v, o, g1, g2, g3⟩ := ShopAt.get (H := H6) (a := S) v2 hi
      have ex : x = .ref v := Option.some.inj (hx.symm.trans g3)
      subst ex
      refine ⟨rfl, _, rfl, _, rfl, p, v, xs, o, rfl, s7 _ _ hp6, (v3 i v o g1 g2).same s7, gN, tell o (List.mem_of_getElem? g2), fun H8 s8 => ?_⟩
      refine ⟨_, s8 _ _ hU, szL' (by rw [List.length_map, List.length_map, List.length_take]; omega), sm_new (s7.trans s8) nU, ?_⟩
      rw [upd_same, ls_app, take_succ_at g2, List.map_append]
      rfl
    · obtain ⟨s7, hU⟩ := hp
      rw [List.length_map, v2, List.take_length] at hU
      have f1 := s7 _ _ e1
      have f2 := e2.same s7
      have f3 := s7 _ _ e3
      have hp7 := s7 _ _ hp6
      have sh7 := sh6.same s7
      have hT7 : Tb [t1, t2] H7 := (Ext.same s7 hT6).t1
      have sg := offers_signs gN os
      refine ⟨_, rfl, by decide, by decide, for_range (n := 2) (fun _ σ H' => ∃ y7 y8 y9, σ = [some (.ref a), some (.ref d), some (.int (1 + x0 % 4)), some (.ref p), some (.ref S), some (.ref hh), some (.ref U), y7, y8, y9, none, none] ∧ Ext [t1, t2] H7 H') ⟨_, _, _, rfl, .refl hT7⟩ (fun i2 σ H8 _ hp => ?_) (fun σ H8 hp => ?_)⟩
      · obtain ⟨y7, y8, y9, rfl, E8⟩ := hp
        -- found
        refine ⟨_, rfl, hh, _, _, _, rfl, rfl, SqL.of (E8.lst f3), atI_nat (j := 0) rfl, _, rfl, hh, _, _, _, rfl, rfl, SqL.of (E8.lst f3), atI_nat (j := 1) rfl, h1, cq, xs, os, rfl, E8.lst f1, f2.ext E8, good, gN, tell, E8.t1, fun H9 pf E9 npf hpf => ?_⟩
        have E79 := E8.trans E9
        refine ⟨_, rfl, _, _, _, _, true, rfl, .ty "list", .base (.lst hpf), kit_ty (by decide +kernel), true, rfl, ?_⟩
        refine ⟨_, rfl, _, rfl, _, _, dp_strs (SqL.of hpf), dp_strs (SqL.of (E79.lst hU)), shaped_strs sg, shaped_strs sg, false, by rw [eqv_self (shaped_strs sg)]; rfl, ?_⟩
        refine ⟨_, rfl, _, rfl, _, rfl, by show 2 ≤ sizeLine; decide, fun e ne => ?_⟩
        have se := same_upd (o := .lst [.ref p, .ref S]) ne
        have E10 : Ext [t1, t2] H7 (upd H9 e (.lst [.ref p, .ref S])) := E79.new (E79.free _ ne)
        have hpf10 := se _ _ hpf
        have he : upd H9 e (.lst [.ref p, .ref S]) e = some (.lst [.ref p, .ref S]) := upd_same
        generalize upd H9 e (.lst [.ref p, .ref S]) = H10 at se E10 hpf10 he ⊢
        refine ⟨_, _, .lst (SqL.of (E10.lst f3)) (.cons (dp_strs (SqL.of (E10.lst f1))) (.cons (f2.ext E10).dp .nil)), .lst (SqL.of he) (.cons (dp_strs (SqL.of (E10.lst hp7))) (.cons (sh7.ext E10).dp .nil)), shaped_both gN.signs, shaped_both gN.signs, false, by rw [eqv_self (shaped_both gN.signs)]; rfl, ?_⟩
        -- all texts
        refine ⟨_, rfl, pf, rfl, ⟨_, SqL.of hpf10⟩, fun B nB => lc_list (xs := (os.map (offerS xs)).map V.str) (fun i H' => Same H10 H' ∧ H' B = some (.lst [])) ⟨same_upd nB, upd_same⟩ (fun i H' _ hp => SqL.of (hp.1 _ _ hpf10)) (fun i x H' hx hp => ?_) (fun H11 hp => ?_)⟩
        · obtain ⟨x', _, rfl⟩ := of_get_strs hx
          exact ⟨rfl, _, rfl, _, _, _, _, true, rfl, .ty "str", .base (.str _), kit_ty (by decide +kernel), true, rfl, hp⟩
        · obtain ⟨s11, hB⟩ := hp
          refine ⟨by decide, fun e4 ne4 => ?_⟩
          have s12 := s11.trans (same_upd (o := .lst []) ne4)
          have hB2 := (same_upd (o := .lst []) ne4) _ _ hB
          have he4 : upd H11 e4 (.lst []) e4 = some (.lst []) := upd_same
          have hpf12 := s12 _ _ hpf10
          have E12 : Ext [t1, t2] H7 (upd H11 e4 (.lst [])) := E10.trans (.same s12 E10.t1)
          generalize upd H11 e4 (.lst []) = H12 at s12 hB2 he4 hpf12 E12 ⊢
          refine ⟨.list [], .list [], .lst (SqL.of hB2) .nil, .lst (SqL.of he4) .nil, by decide +kernel, by decide +kernel, false, by decide +kernel, ?_⟩
          -- told
          refine ⟨_, rfl, hh, _, _, _, rfl, rfl, SqL.of (E12.lst f3), atI_nat (j := 0) rfl, _, rfl, h1, pf, xs, os, rfl, E12.lst f1, hpf12, gN, rdo, good.1, E12.t1, fun H13 tq us Ss E13 td => ?_⟩
          have E713 := E12.trans E13
          have hpf13 := E13.lst hpf12
          refine ⟨_, rfl, _, rfl, _, _, dp_strs (SqL.of hpf13), dp_strs (SqL.of (E713.lst hU)), shaped_strs sg, shaped_strs sg, false, by rw [eqv_self (shaped_strs sg)]; rfl, ?_⟩
          refine ⟨_, rfl, _, rfl, tq, S, H12, us, os, Ss, m, rfl, E13, td, sh7.ext E12, good, ft, hm4, fun H14 E14 htq => ⟨true, rfl, ?_⟩⟩
          have E714 := E12.trans E14
          have hpf14 := E14.lst hpf12
          refine ⟨_, rfl, hh, _, _, _, rfl, rfl, SqL.of (E714.lst f3), atI_nat (j := 0) rfl, _, rfl, _, _, dp_strs (SqL.of (E714.lst f1)), dp_strs (SqL.of (E714.lst hp7)), shaped_strs gN.signs, shaped_strs gN.signs, false, by rw [eqv_self (shaped_strs gN.signs)]; rfl, ?_⟩
          have npf7 : H7 pf = none := E8.free _ npf
          have ntq7 : H7 tq = none := E12.free _ td.newq
          have neqf : tq ≠ pf := fun z => by
            have := td.newq
            rw [z, hpf12] at this
            cases this
          refine ⟨_, rfl, .inl ⟨rfl, _, SqL.of hpf14⟩, pf, _, _, rfl, rfl, hpf14, szL' (by rw [List.length_map, List.length_map]; omega), ?_⟩
          have htq2 : upd H14 pf (.lst ((os.map (offerS xs)).map V.str ++ [.str ("" : Str)])) tq = some (.lst (us.map V.ref)) := by rw [upd_ne neqf]; exact htq
          have E15 : Ext [t1, t2] H7 (upd H14 pf (.lst ((os.map (offerS xs)).map V.str ++ [.str ("" : Str)]))) := E714.new npf7
          generalize upd H14 pf (.lst ((os.map (offerS xs)).map V.str ++ [.str ("" : Str)])) = H15 at htq2 E15 ⊢
          refine ⟨_, rfl, .inl ⟨rfl, _, SqL.of htq2⟩, by decide, fun e5 ne5 => ?_⟩
          have htq3 := (same_upd (o := .tup []) ne5) _ _ htq2
          refine ⟨tq, _, _, rfl, rfl, htq3, szL' (by rw [List.length_map, td.len]; omega), _, _, _, rfl, ?_⟩
          exact (E15.new (E15.free _ ne5)).new ntq7
      · obtain ⟨y7, y8, y9, rfl, E8⟩ := hp
        refine ⟨_, rfl, by decide, fun r nr => ?_⟩
        have sr := same_upd (o := .lst []) nr
        have E9 : Ext [t1, t2] H7 (upd H8 r (.lst [])) := E8.new (E8.free _ nr)
        refine ⟨p, r, xs, [], rfl, E9.lst hp7, upd_same, gN, (fun o h => by cases h), by decide, E9.t1, fun H10 tq us Ss E10 td => ?_⟩
        have eu : us = [] := List.eq_nil_of_length_eq_zero td.len
        have hq := td.atq
        rw [eu] at hq
        refine ⟨by decide, fun e ne => ?_⟩
        refine ⟨.list [], .list [], .lst (SqL.of ((same_upd (o := .lst []) ne) _ _ hq)) .nil, .lst (SqL.of upd_same) .nil, by decide +kernel, by decide +kernel, ?_⟩
        have ev : PyData.eqv (.list []) (.list []) = true := by decide +kernel
        rw [ev]
        exact q _
end
/-! ### the end, with tables of code objects -/
theorem tabIn_of {K : PySem.W.Frag} {x : Str} {f c P : Addr} {oc e : Value} {od dd : Option Addr} {fd : FuncData} {sl sl' : Array (Option Value)} {vs : Array Value} (a : PySem.W.nsIn K mainGlobals x = some (some (.ref f))) (l : K.lookup f = some ⟨oc, od, .func fd, sl⟩) (hc : fd.code = .ref c)
    (lc : K.lookup c = some ⟨e, dd, .fields vs, sl'⟩) (hv : vs[11]? = some (.ref P)) : PySem.W.tabIn K x = some (c, P) := by
  unfold PySem.W.tabIn
  rw [a]
  simp only [l, hc, lc, hv]
theorem walk_ofG {l : PySem.W.OpenLaw} {n k : Nat} {q : Program} {loose : List Str} {XP : (Str → Option Value) → Heap → Prop} {YP : World → Heap → Prop} {d : DefRec} {K : Params → PySem.W.Frag} {CX : World → CXT} {x : Str}
    (hn : l.most = some n) (hn2 : n ≤ sizeLine) (hdf : d.params.defaults = []) (hr : Room k callerA) (hY : ∀ (w : World) (h : Heap), YP w h → (K w.params).In h)
    (F : ∀ (w : World) (mg : Str → Option Value) (fa : Addr) (h : Heap), (K w.params).In h → h.Ns mainGlobals mg → mg d.name = some (.ref fa) →
      (∀ (y : Str) (c P : Addr), ((recsOf q).find? fun e => e.name == y).isSome = true → PySem.W.tabIn (K w.params) y = some (c, P) → PySem.W.CodeHd h c P ∧ h.get? P = some { cls := .none, data := .fields #[] }) → LamX.LawAtS l w (K w.params) (CX w) k n x mg fa h)
    (hCX : ∀ (w : World) (H : Hp) (s : Shared) (e : Value) (s' : Shared), CX w [] H s (fun _ _ _ => False) e s' → False) :
    PySem.W.WalkO q loose XP YP l.row.toRowW d [] (fun f vs => PySem.call f vs) := by
  refine Att.attach_callB hn hdf fun w s₀ s₁ mg mb fa o pm cd doc a vs ns G Y ho hd hcd hmg hobj hints hlen hbits hg => ?_
  have KX := hY w _ Y
  obtain ⟨fd, cs, sp, hT, nT, C, hb, hsp, hF⟩ := F w mg fa _ KX G.T.g hmg fun y c P hy ht => by
    obtain ⟨dd, hdd⟩ := Option.isSome_iff_exists.mp hy
    exact PySem.W.tab_of G.T KX hdd ht
  exact LamX.law_callTs KX G.T.g G.T.b G.T.builtins G.T.nolimit hg hT nT C G.T.bmain hobj hints (Nat.le_trans hlen hn2) hr hF hb (fun H hH hS => hsp H a ns hlen hbits hH hS) fun H e s' => hCX w H s₁ e s'
/-! ### the end, for a law that shows data as texts -/
section
variable {P : Program} {w : World} {K : PySem.W.Frag} {mg mb : Str → Option Value} {k : Nat} {fa a : Addr} {cs : List (Addr × Addr)} {fd : FuncData} {x : Str} {sp : Sp} {s : Shared} {vs : List Value} {ns : List Int}
/-- a code object's table, as the head leaves it -/
abbrev tab0 : Obj := { cls := .none, data := .fields #[] }
/-- what is followed at the law's start: the tables, and the script unless it is written -/
def heap0 (K : PySem.W.Frag) (cs : List (Addr × Addr)) (a : Addr) (vs : List Value) (ns : List Int) : Hp := fun b =>
  if b ∈ cs.map Prod.snd then some (.tbl #[]) else if b = a ∧ K.lookup a = none then some (.frz { cls := .type "list", data := .seq vs.toArray } (.lst (ns.map V.int))) else none
theorem heap0_tab {b : Addr} (h : b ∈ cs.map Prod.snd) : heap0 K cs a vs ns b = some (.tbl #[]) := if_pos h
theorem heap0_scr (n : a ∉ cs.map Prod.snd) (h : K.lookup a = none) : heap0 K cs a vs ns a = some (.frz { cls := .type "list", data := .seq vs.toArray } (.lst (ns.map V.int))) := by
  unfold heap0
  rw [if_neg n, if_pos ⟨rfl, h⟩]
theorem heap0_cases {b : Addr} {u : HO} (h : heap0 K cs a vs ns b = some u) : (b ∈ cs.map Prod.snd ∧ u = .tbl #[]) ∨ (b = a ∧ K.lookup a = none ∧ u = .frz { cls := .type "list", data := .seq vs.toArray } (.lst (ns.map V.int))) := by
  unfold heap0 at h
  split at h
  · exact .inl ⟨by assumption, (Option.some.inj h).symm⟩
  · split at h
    · rename_i z
      exact .inr ⟨z.1, z.2, (Option.some.inj h).symm⟩
    · cases h
theorem lawG_call (kin : K.In s.heap) (glb : s.heap.Ns mainGlobals mg) (blt : s.heap.Ns builtinsNs mb) (std : ∀ x : Str, x ≠ "__name__" → mb x = bootBuiltins x) (nol : s.heap.NoLimit) (gens : s.gens = #[])
    (tabs : ∀ p ∈ cs, s.heap.get? p.2 = some tab0) (offK : ∀ p ∈ cs, K.lookup p.2 = none) (code : ∀ p ∈ cs, PySem.W.CodeHd s.heap p.1 p.2)
    (bmod : ∃ (bm : Addr) (ob : Obj), mg "__builtins__" = some (.ref bm) ∧ bm ≠ builtinsNs ∧ s.heap.get? bm = some ob ∧ ob.cls = .type "module" ∧ ob.dict = some builtinsNs ∧ ob.data = .plain)
    (scr : s.heap.get? a = some { cls := .type "list", data := .seq vs.toArray }) (areI : IntsAre vs ns) (few : ns.length ≤ sizeLine) (room : Room k callerA)
    (F : ∀ base : Heap, K.In base → base.Ns mainGlobals mg → (∀ p ∈ cs, GxR.TabB base mg p.1 p.2) → FnOkG P w K mg base k fa fd [x] sp) (bnd : ∀ (s : Shared) (u : Value), BindsTo s fd ⟨[u], []⟩ [(x, u)])
    (pre : ∀ H : Hp, (∀ p ∈ cs, H p.2 = some (.tbl #[])) → SqL K H a (ns.map V.int) → sp [.ref a] H (fun v _ => v = .bl true) fun _ _ _ => False) :
    codeAny (model P w) callerA (.call (.ref fa) ⟨[.ref a], []⟩) (fun r s' => r = .ok (.ret (.bool true)) ∧ OldK s.heap s'.heap ∧ s'.os = s.os ∧ AllBare s'.gens) s := by
  have tabT : ∀ {b}, b ∈ cs.map Prod.snd → s.heap.get? b = some tab0 := fun {b} hb => by
    obtain ⟨p, hp, rfl⟩ := List.mem_map.mp hb
    exact tabs p hp
  have inT : ∀ {p}, p ∈ cs → p.2 ∈ cs.map Prod.snd := fun {p} hp => List.mem_map.mpr ⟨p, hp, rfl⟩
  have scrT : a ∉ cs.map Prod.snd := fun hb => by
    have z := scr.symm.trans (tabT hb)
    injection Option.some.inj z with z1 _ _ _
    cases z1
  generalize hH : heap0 K cs a vs ns = H
  have onT : ∀ p ∈ cs, H p.2 = some (.tbl #[]) := fun p hp => by rw [← hH]; exact heap0_tab (inT hp)
  -- what else stands in the heap is not followed
  have off : ∀ {b : Addr} {o : Obj}, s.heap.get? b = some o → (∀ q n, o.data ≠ .seq q n) → o.data ≠ .fields #[] → H b = none := fun {b o} hb n1 n2 => by
    cases z : H b with
    | none => rfl
    | some u =>
      rw [← hH] at z
      rcases heap0_cases z with ⟨t, _⟩ | ⟨e, _, _⟩
      · cases (tabT t).symm.trans hb
        exact (n2 rfl).elim
      · rw [e] at hb
        cases scr.symm.trans hb
        exact (n1 _ _ rfl).elim
  have offD : ∀ {b : Addr} {o : Obj} {es : Array DictEntry} {ep : Nat}, s.heap.get? b = some o → o.data = .dict es ep → H b = none := fun {b o es ep} hb hd => off hb (fun q n z => by rw [hd] at z; cases z) (fun z => by rw [hd] at z; cases z)
  have nsB : ∀ {b : Addr} {m : Str → Option Value}, s.heap.Ns b m → (hidT s.heap H).Ns b m := fun {b m} z => by
    obtain ⟨o, es, ep, h1, h2, h3⟩ := z
    exact ⟨o, es, ep, hidT_get h1 (offD h1 h2), h2, h3⟩
  have seq : SqL K H a (ns.map V.int) := by
    have rel := vals_ints areI
    cases z : K.lookup a with
    | none => exact .inl (.inr ⟨_, by rw [← hH]; exact heap0_scr scrT z⟩)
    | some o =>
      cases scr.symm.trans (kin a o z)
      exact .inr ⟨_, vs.toArray, _, z, rfl, rfl, rfl, by rw [List.size_toArray, areI.length]; exact few, by simpa using rel⟩
  have hok : HOk P w H s.heap := fun b u z => by
    rw [← hH] at z
    rcases heap0_cases z with ⟨t, rfl⟩ | ⟨rfl, _, rfl⟩
    · exact tabT t
    · exact ⟨scr, by rw [List.length_map]; exact few, vs, _, vals_ints areI, scr⟩
  have kinB : K.In (hidT s.heap H) := fun b o z => hidT_get (kin b o z) (by
    cases y : H b with
    | none => rfl
    | some u =>
      rw [← hH] at y
      rcases heap0_cases y with ⟨t, _⟩ | ⟨e, n, _⟩
      · obtain ⟨p, hp, rfl⟩ := List.mem_map.mp t
        rw [offK p hp] at z
        cases z
      · rw [e, n] at z
        cases z)
  have tbB : ∀ p ∈ cs, GxR.TabB (hidT s.heap H) mg p.1 p.2 := fun p hp => by
    have tp := tabs p hp
    obtain ⟨og, eg, pg, g1, g2, _⟩ := id glb
    refine ⟨?_, ?_, fun z => ?_⟩
    · obtain ⟨o, q, y1, y2, y3, y4, y5, y6, y7, h1, h2, h3, h4, h5⟩ := code p hp
      refine ⟨o, q, y1, y2, y3, y4, y5, y6, y7, hidT_get h1 (off h1 (fun q n z => by rw [h3] at z; cases z) fun z => ?_), h2, h3, h4, h5⟩
      rw [h3] at z
      cases z
      simp at h4
    · obtain ⟨bm, ob, b1, b2, b3, b4, b5, b6⟩ := bmod
      have d1 : bm ≠ mainGlobals := fun z => by
        rw [z] at b3
        cases g1.symm.trans b3
        rw [g2] at b6
        cases b6
      have d2 : bm ≠ p.2 := fun z => by
        rw [z] at b3
        cases tp.symm.trans b3
        cases b6
      exact ⟨bm, ob, b1, b2, d1, d2, hidT_get b3 (off b3 (fun q n z => by rw [b6] at z; cases z) fun z => by rw [b6] at z; cases z), b4, b5, b6⟩
    · rw [z] at g1
      cases tp.symm.trans g1
      cases g2
  have env : Env0 P w K mg (hidT s.heap H) callerA [] s H := by
    refine ⟨rfl, ⟨kinB, nsB glb, ⟨mb, nsB blt, std⟩, ?_⟩, fun b o z => of_hidT z, Nat.le_of_eq (hidT_size _ _), trivial, fun b hb => absurd (show b ∈ ([] : List Addr) from hb) (List.not_mem_nil), hok, .of_eq gens⟩
    obtain ⟨mc, l1, l2⟩ := nol
    exact ⟨mc, nsB l1, l2⟩
  refine codeAny_mono ((F _ kinB (nsB glb) tbB).go callerA [] s H ⟨[.ref a], []⟩ [.ref a] [.ref a] _ _ rfl room env (bnd s (.ref a)) (.cons rfl .nil) (pre H onT seq)) fun r s' res => ?_
  match r, res with
  | .error e, z => exact z.elim
  | .ok (.ret u), ⟨v, H', os, bare, un, hok', rel, val⟩ =>
    have val' : v = .bl true := val
    subst val'
    obtain rfl : u = Value.bool true := rel
    have stay : ∀ {b : Addr} {o : Obj}, b ∉ cs.map Prod.snd → s.heap.get? b = some o → s'.heap.get? b = some o := fun {b o} nb hb => by
      cases z : H b with
      | none => exact un.keep b o hb z (fun y => absurd (show b ∈ ([] : List Addr) from y) List.not_mem_nil) (by simp)
      | some c =>
        have z0 := z
        rw [← hH] at z0
        rcases heap0_cases z0 with ⟨t, _⟩ | ⟨rfl, _, rfl⟩
        · exact absurd t nb
        · obtain ⟨y, _⟩ := hok' _ _ (un.frzs _ _ _ z)
          cases scr.symm.trans hb
          exact y
    have grow : ∀ {b : Addr}, b ∈ cs.map Prod.snd → isCodeTable s.heap b ∧ ∃ more : Array Value, s'.heap.get? b = some { cls := .none, data := .fields more } := fun {b} hb => by
      obtain ⟨p, hp, rfl⟩ := List.mem_map.mp hb
      obtain ⟨more, z⟩ := un.tbls p.2 #[] (onT p hp)
      exact ⟨((code p hp).tab (tabs p hp)).isCodeTable, _, hok' p.2 _ z⟩
    refine ⟨rfl, ⟨fun b o hb => ?_, fun b o hb => ?_⟩, os, bare⟩
    · by_cases t : b ∈ cs.map Prod.snd
      · obtain ⟨c1, more, c2⟩ := grow t
        cases (tabT t).symm.trans hb
        exact .inr (.inl ⟨c1, rfl, #[], more, rfl, by rw [Array.empty_append]; exact c2⟩)
      · exact .inl (stay t hb)
    · by_cases t : b ∈ cs.map Prod.snd
      · obtain ⟨_, more, c2⟩ := grow t
        exact ⟨_, c2⟩
      · exact ⟨o, stay t hb⟩
end
/-- the law's promise, for a law that shows data -/
def LawAtG (l : PySem.W.OpenLaw) (w : World) (K : PySem.W.Frag) (k n : Nat) (x : Str) (mg : Str → Option Value) (fa : Addr) (h : Heap) : Prop :=
  ∃ (fd : FuncData) (cs : List (Addr × Addr)) (sp : Sp), (∀ p ∈ cs, h.get? p.2 = some tab0) ∧ (∀ p ∈ cs, K.lookup p.2 = none) ∧ (∀ p ∈ cs, PySem.W.CodeHd h p.1 p.2) ∧ (∀ (s : Shared) (u : Value), BindsTo s fd ⟨[u], []⟩ [(x, u)]) ∧
    (∀ (H : Hp) (a : Addr) (ns : List Int), ns.length ≤ n → (∀ p ∈ cs, H p.2 = some (.tbl #[])) → SqL K H a (ns.map V.int) → sp [.ref a] H (fun v _ => v = .bl true) fun _ _ _ => False) ∧
    ∀ base : Heap, K.In base → base.Ns mainGlobals mg → (∀ p ∈ cs, GxR.TabB base mg p.1 p.2) → FnOkG l.prog w K mg base k fa fd [x] sp
theorem walk_ofH {l : PySem.W.OpenLaw} {n k : Nat} {q : Program} {loose : List Str} {XP : (Str → Option Value) → Heap → Prop} {YP : World → Heap → Prop} {d : DefRec} {K : Params → PySem.W.Frag} {x : Str}
    (most : l.most = some n) (few : n ≤ sizeLine) (nodef : d.params.defaults = []) (room : Room k callerA) (hK : ∀ (w : World) (h : Heap), YP w h → (K w.params).In h)
    (F : ∀ (w : World) (mg : Str → Option Value) (fa : Addr) (h : Heap), (K w.params).In h → h.Ns mainGlobals mg → mg d.name = some (.ref fa) →
      (∀ (y : Str) (c P : Addr), ((recsOf q).find? fun e => e.name == y).isSome = true → PySem.W.tabIn (K w.params) y = some (c, P) → PySem.W.CodeHd h c P ∧ h.get? P = some tab0) → LawAtG l w (K w.params) k n x mg fa h) :
    PySem.W.WalkO q loose XP YP l.row.toRowW d [] (fun f vs => PySem.call f vs) := by
  refine Att.attach_callB most nodef fun w s₀ s₁ mg mb fa o pm cd doc a vs ns gr Y _ _ _ named scr areI len _ gens => ?_
  have kin := hK w _ Y
  obtain ⟨fd, cs, sp, h1, h2, h3, h4, h5, h6⟩ := F w mg fa _ kin gr.T.g named fun y c P isR tb => by
    obtain ⟨rec, e⟩ := Option.isSome_iff_exists.mp isR
    exact PySem.W.tab_of gr.T kin e tb
  exact lawG_call kin gr.T.g gr.T.b gr.T.builtins gr.T.nolimit gens h1 h2 h3 gr.T.bmain scr areI (Nat.le_trans len few) room h6 h4 fun H t z => h5 H a ns len t z
/-! ### what the top has written -/
theorem all_mk {l : PySem.W.OpenLaw} {w : World} {q : Program} {K : PySem.W.Frag} {h : Heap} {mg : Str → Option Value} {fa f1 f2 f3 f4 f5 f6 f7 f8 f9 f10 f11 f12 f13 f14 f15 f16 f17 f18 f19 f20 f21 f22 f23 f24 f25 f26 f27 f28 f29 f30 f31 f32 f33 : Addr} (X : K.In h) (G : h.Ns mainGlobals mg) (hfa : mg "law" = some (.ref fa))
    (tabs : ∀ (y : Str) (c P : Addr), ((recsOf q).find? fun e => e.name == y).isSome = true → PySem.W.tabIn K y = some (c, P) → PySem.W.CodeHd h c P ∧ h.get? P = some { cls := .none, data := .fields #[] })
    {od1 an1 od2 an2 od3 an3 od4 an4 od5 an5 od6 an6 od7 an7 od8 an8 od9 an9 od10 an10 od11 an11 od12 an12 od13 an13 od14 an14 od15 an15 od16 an16 od17 an17 od18 an18 od19 an19 od20 an20 od21 an21 od22 an22 od23 an23 od24 an24 od25 an25 od26 an26 od27 an27 od28 an28 od29 an29 od30 an30 od31 an31 od32 an32 od33 an33 : Option Addr} {sl1 sl2 sl3 sl4 sl5 sl6 sl7 sl8 sl9 sl10 sl11 sl12 sl13 sl14 sl15 sl16 sl17 sl18 sl19 sl20 sl21 sl22 sl23 sl24 sl25 sl26 sl27 sl28 sl29 sl30 sl31 sl32 sl33 : Array (Option Value)} {oc1 kV1 dc1 pm1 ct1 cd1 oc2 kV2 dc2 pm2 ct2 cd2 oc3 kV3 dc3 pm3 ct3 oc4 kV4 dc4 pm4 ct4 cd4 oc5 kV5 dc5 pm5 ct5 cd5 oc6 kV6 dc6 pm6 ct6 cd6 oc7 kV7 dc7 pm7 ct7 cd7 oc8 kV8 dc8 pm8 ct8 cd8 oc9 kV9 dc9 pm9 ct9 oc10 kV10 dc10 pm10 ct10 cd10 oc11 kV11 dc11 pm11 ct11 cd11 oc12 kV12 dc12 pm12 ct12 cd12 oc13 kV13 dc13 pm13 ct13 cd13 oc14 kV14 dc14 pm14 ct14 cd14 oc15 kV15 dc15 pm15 ct15 cd15 oc16 kV16 dc16 pm16 ct16 cd16 oc17 kV17 dc17 pm17 ct17 cd17 oc18 kV18 dc18 pm18 ct18 cd18 oc19 kV19 dc19 pm19 ct19 cd19 oc20 kV20 dc20 pm20 ct20 cd20 oc21 kV21 dc21 pm21 ct21 cd21 oc22 kV22 dc22 pm22 ct22 cd22 oc23 kV23 dc23 pm23 ct23 cd23 oc24 kV24 dc24 pm24 ct24 cd24 oc25 kV25 dc25 pm25 ct25 cd25 oc26 kV26 dc26 pm26 ct26 cd26 oc27 kV27 dc27 pm27 ct27 cd27 oc28 kV28 dc28 pm28 ct28 cd28 oc29 kV29 dc29 pm29 ct29 cd29 oc30 kV30 dc30 pm30 ct30 cd30 oc31 kV31 dc31 pm31 ct31 cd31 oc32 kV32 dc32 pm32 ct32 cd32 oc33 kV33 dc33 pm33 ct33 cd33 : Value}
    {cT3 PT3 : Addr} {eT3 : Value} {dT3 : Option Addr} {vT3 : Array Value} {sT3 : Array (Option Value)}
    {cT9 PT9 : Addr} {eT9 : Value} {dT9 : Option Addr} {vT9 : Array Value} {sT9 : Array (Option Value)}
    (a1 : PySem.W.nsIn K mainGlobals "law" = some (some (.ref f1))) (l1 : K.lookup f1 = some ⟨oc1, od1, .func (PySem.W.fnOf "law" "law" (defArgs s_law) (defBody s_law) (defScope s_law) .none kV1 dc1 pm1 an1 cd1 ct1), sl1⟩) (c1 : PySem.W.codeIn K cd1 "law" = true) (k1 : PySem.W.keepIn K (.ref f1) = true)
    (a2 : PySem.W.nsIn K mainGlobals "names_pack" = some (some (.ref f2))) (l2 : K.lookup f2 = some ⟨oc2, od2, .func (PySem.W.fnOf "names_pack" "names_pack" (defArgs s_names_pack) (defBody s_names_pack) (defScope s_names_pack) .none kV2 dc2 pm2 an2 cd2 ct2), sl2⟩) (c2 : PySem.W.codeIn K cd2 "names_pack" = true) (k2 : PySem.W.keepIn K (.ref f2) = true)
    (a3 : PySem.W.nsIn K mainGlobals "good_tiers" = some (some (.ref f3))) (l3 : K.lookup f3 = some ⟨oc3, od3, .func (PySem.W.fnOf "good_tiers" "good_tiers" (defArgs s_good_tiers) (defBody s_good_tiers) (defScope s_good_tiers) .none kV3 dc3 pm3 an3 (.ref cT3) ct3), sl3⟩) (c3 : PySem.W.codeIn K (.ref cT3) "good_tiers" = true) (k3 : PySem.W.keepIn K (.ref f3) = true)
    (a4 : PySem.W.nsIn K mainGlobals "can_stand" = some (some (.ref f4))) (l4 : K.lookup f4 = some ⟨oc4, od4, .func (PySem.W.fnOf "can_stand" "can_stand" (defArgs s_can_stand) (defBody s_can_stand) (defScope s_can_stand) .none kV4 dc4 pm4 an4 cd4 ct4), sl4⟩) (c4 : PySem.W.codeIn K cd4 "can_stand" = true) (k4 : PySem.W.keepIn K (.ref f4) = true)
    (a5 : PySem.W.nsIn K mainGlobals "look" = some (some (.ref f5))) (l5 : K.lookup f5 = some ⟨oc5, od5, .func (PySem.W.fnOf "look" "look" (defArgs s_look) (defBody s_look) (defScope s_look) .none kV5 dc5 pm5 an5 cd5 ct5), sl5⟩) (c5 : PySem.W.codeIn K cd5 "look" = true) (k5 : PySem.W.keepIn K (.ref f5) = true)
    (a6 : PySem.W.nsIn K mainGlobals "show_content" = some (some (.ref f6))) (l6 : K.lookup f6 = some ⟨oc6, od6, .func (PySem.W.fnOf "show_content" "show_content" (defArgs s_show_content) (defBody s_show_content) (defScope s_show_content) .none kV6 dc6 pm6 an6 cd6 ct6), sl6⟩) (c6 : PySem.W.codeIn K cd6 "show_content" = true) (k6 : PySem.W.keepIn K (.ref f6) = true)
    (a7 : PySem.W.nsIn K mainGlobals "show_offer" = some (some (.ref f7))) (l7 : K.lookup f7 = some ⟨oc7, od7, .func (PySem.W.fnOf "show_offer" "show_offer" (defArgs s_show_offer) (defBody s_show_offer) (defScope s_show_offer) .none kV7 dc7 pm7 an7 cd7 ct7), sl7⟩) (c7 : PySem.W.codeIn K cd7 "show_offer" = true) (k7 : PySem.W.keepIn K (.ref f7) = true)
    (a8 : PySem.W.nsIn K mainGlobals "show_shop" = some (some (.ref f8))) (l8 : K.lookup f8 = some ⟨oc8, od8, .func (PySem.W.fnOf "show_shop" "show_shop" (defArgs s_show_shop) (defBody s_show_shop) (defScope s_show_shop) .none kV8 dc8 pm8 an8 cd8 ct8), sl8⟩) (c8 : PySem.W.codeIn K cd8 "show_shop" = true) (k8 : PySem.W.keepIn K (.ref f8) = true)
    (a9 : PySem.W.nsIn K mainGlobals "made_of" = some (some (.ref f9))) (l9 : K.lookup f9 = some ⟨oc9, od9, .func (PySem.W.fnOf "made_of" "made_of" (defArgs s_made_of) (defBody s_made_of) (defScope s_made_of) .none kV9 dc9 pm9 an9 (.ref cT9) ct9), sl9⟩) (c9 : PySem.W.codeIn K (.ref cT9) "made_of" = true) (k9 : PySem.W.keepIn K (.ref f9) = true)
    (a10 : PySem.W.nsIn K mainGlobals "read_number" = some (some (.ref f10))) (l10 : K.lookup f10 = some ⟨oc10, od10, .func (PySem.W.fnOf "read_number" "read_number" (defArgs s_read_number) (defBody s_read_number) (defScope s_read_number) .none kV10 dc10 pm10 an10 cd10 ct10), sl10⟩) (c10 : PySem.W.codeIn K cd10 "read_number" = true) (k10 : PySem.W.keepIn K (.ref f10) = true)
    (a11 : PySem.W.nsIn K mainGlobals "within_bounds" = some (some (.ref f11))) (l11 : K.lookup f11 = some ⟨oc11, od11, .func (PySem.W.fnOf "within_bounds" "within_bounds" (defArgs s_within_bounds) (defBody s_within_bounds) (defScope s_within_bounds) .none kV11 dc11 pm11 an11 cd11 ct11), sl11⟩) (c11 : PySem.W.codeIn K cd11 "within_bounds" = true) (k11 : PySem.W.keepIn K (.ref f11) = true)
    (a12 : PySem.W.nsIn K mainGlobals "read_thing" = some (some (.ref f12))) (l12 : K.lookup f12 = some ⟨oc12, od12, .func (PySem.W.fnOf "read_thing" "read_thing" (defArgs s_read_thing) (defBody s_read_thing) (defScope s_read_thing) .none kV12 dc12 pm12 an12 cd12 ct12), sl12⟩) (c12 : PySem.W.codeIn K cd12 "read_thing" = true) (k12 : PySem.W.keepIn K (.ref f12) = true)
    (a13 : PySem.W.nsIn K mainGlobals "read_content" = some (some (.ref f13))) (l13 : K.lookup f13 = some ⟨oc13, od13, .func (PySem.W.fnOf "read_content" "read_content" (defArgs s_read_content) (defBody s_read_content) (defScope s_read_content) .none kV13 dc13 pm13 an13 cd13 ct13), sl13⟩) (c13 : PySem.W.codeIn K cd13 "read_content" = true) (k13 : PySem.W.keepIn K (.ref f13) = true)
    (a14 : PySem.W.nsIn K mainGlobals "read_goods" = some (some (.ref f14))) (l14 : K.lookup f14 = some ⟨oc14, od14, .func (PySem.W.fnOf "read_goods" "read_goods" (defArgs s_read_goods) (defBody s_read_goods) (defScope s_read_goods) .none kV14 dc14 pm14 an14 cd14 ct14), sl14⟩) (c14 : PySem.W.codeIn K cd14 "read_goods" = true) (k14 : PySem.W.keepIn K (.ref f14) = true)
    (a15 : PySem.W.nsIn K mainGlobals "read_sold" = some (some (.ref f15))) (l15 : K.lookup f15 = some ⟨oc15, od15, .func (PySem.W.fnOf "read_sold" "read_sold" (defArgs s_read_sold) (defBody s_read_sold) (defScope s_read_sold) .none kV15 dc15 pm15 an15 cd15 ct15), sl15⟩) (c15 : PySem.W.codeIn K cd15 "read_sold" = true) (k15 : PySem.W.keepIn K (.ref f15) = true)
    (a16 : PySem.W.nsIn K mainGlobals "read_tier" = some (some (.ref f16))) (l16 : K.lookup f16 = some ⟨oc16, od16, .func (PySem.W.fnOf "read_tier" "read_tier" (defArgs s_read_tier) (defBody s_read_tier) (defScope s_read_tier) .none kV16 dc16 pm16 an16 cd16 ct16), sl16⟩) (c16 : PySem.W.codeIn K cd16 "read_tier" = true) (k16 : PySem.W.keepIn K (.ref f16) = true)
    (a17 : PySem.W.nsIn K mainGlobals "read_many" = some (some (.ref f17))) (l17 : K.lookup f17 = some ⟨oc17, od17, .func (PySem.W.fnOf "read_many" "read_many" (defArgs s_read_many) (defBody s_read_many) (defScope s_read_many) .none kV17 dc17 pm17 an17 cd17 ct17), sl17⟩) (c17 : PySem.W.codeIn K cd17 "read_many" = true) (k17 : PySem.W.keepIn K (.ref f17) = true)
    (a18 : PySem.W.nsIn K mainGlobals "read_add" = some (some (.ref f18))) (l18 : K.lookup f18 = some ⟨oc18, od18, .func (PySem.W.fnOf "read_add" "read_add" (defArgs s_read_add) (defBody s_read_add) (defScope s_read_add) .none kV18 dc18 pm18 an18 cd18 ct18), sl18⟩) (c18 : PySem.W.codeIn K cd18 "read_add" = true) (k18 : PySem.W.keepIn K (.ref f18) = true)
    (a19 : PySem.W.nsIn K mainGlobals "read_offer" = some (some (.ref f19))) (l19 : K.lookup f19 = some ⟨oc19, od19, .func (PySem.W.fnOf "read_offer" "read_offer" (defArgs s_read_offer) (defBody s_read_offer) (defScope s_read_offer) .none kV19 dc19 pm19 an19 cd19 ct19), sl19⟩) (c19 : PySem.W.codeIn K cd19 "read_offer" = true) (k19 : PySem.W.keepIn K (.ref f19) = true)
    (a20 : PySem.W.nsIn K mainGlobals "read_shop" = some (some (.ref f20))) (l20 : K.lookup f20 = some ⟨oc20, od20, .func (PySem.W.fnOf "read_shop" "read_shop" (defArgs s_read_shop) (defBody s_read_shop) (defScope s_read_shop) .none kV20 dc20 pm20 an20 cd20 ct20), sl20⟩) (c20 : PySem.W.codeIn K cd20 "read_shop" = true) (k20 : PySem.W.keepIn K (.ref f20) = true)
    (a21 : PySem.W.nsIn K mainGlobals "_law_draws" = some (some (.ref f21))) (l21 : K.lookup f21 = some ⟨oc21, od21, .func (PySem.W.fnOf "_law_draws" "_law_draws" (defArgs s_law_draws) (defBody s_law_draws) (defScope s_law_draws) .none kV21 dc21 pm21 an21 cd21 ct21), sl21⟩) (c21 : PySem.W.codeIn K cd21 "_law_draws" = true) (k21 : PySem.W.keepIn K (.ref f21) = true)
    (a22 : PySem.W.nsIn K mainGlobals "_law_pop" = some (some (.ref f22))) (l22 : K.lookup f22 = some ⟨oc22, od22, .func (PySem.W.fnOf "_law_pop" "_law_pop" (defArgs s_law_pop) (defBody s_law_pop) (defScope s_law_pop) .none kV22 dc22 pm22 an22 cd22 ct22), sl22⟩) (c22 : PySem.W.codeIn K cd22 "_law_pop" = true) (k22 : PySem.W.keepIn K (.ref f22) = true)
    (a23 : PySem.W.nsIn K mainGlobals "_law_want" = some (some (.ref f23))) (l23 : K.lookup f23 = some ⟨oc23, od23, .func (PySem.W.fnOf "_law_want" "_law_want" (defArgs s_law_want) (defBody s_law_want) (defScope s_law_want) .none kV23 dc23 pm23 an23 cd23 ct23), sl23⟩) (c23 : PySem.W.codeIn K cd23 "_law_want" = true) (k23 : PySem.W.keepIn K (.ref f23) = true)
    (a24 : PySem.W.nsIn K mainGlobals "_law_cases" = some (some (.ref f24))) (l24 : K.lookup f24 = some ⟨oc24, od24, .func (PySem.W.fnOf "_law_cases" "_law_cases" (defArgs s_law_cases) (defBody s_law_cases) (defScope s_law_cases) .none kV24 dc24 pm24 an24 cd24 ct24), sl24⟩) (c24 : PySem.W.codeIn K cd24 "_law_cases" = true) (k24 : PySem.W.keepIn K (.ref f24) = true)
    (a25 : PySem.W.nsIn K mainGlobals "_law_content" = some (some (.ref f25))) (l25 : K.lookup f25 = some ⟨oc25, od25, .func (PySem.W.fnOf "_law_content" "_law_content" (defArgs s_law_content) (defBody s_law_content) (defScope s_law_content) .none kV25 dc25 pm25 an25 cd25 ct25), sl25⟩) (c25 : PySem.W.codeIn K cd25 "_law_content" = true) (k25 : PySem.W.keepIn K (.ref f25) = true)
    (a26 : PySem.W.nsIn K mainGlobals "_law_price" = some (some (.ref f26))) (l26 : K.lookup f26 = some ⟨oc26, od26, .func (PySem.W.fnOf "_law_price" "_law_price" (defArgs s_law_price) (defBody s_law_price) (defScope s_law_price) .none kV26 dc26 pm26 an26 cd26 ct26), sl26⟩) (c26 : PySem.W.codeIn K cd26 "_law_price" = true) (k26 : PySem.W.keepIn K (.ref f26) = true)
    (a27 : PySem.W.nsIn K mainGlobals "_law_tiers" = some (some (.ref f27))) (l27 : K.lookup f27 = some ⟨oc27, od27, .func (PySem.W.fnOf "_law_tiers" "_law_tiers" (defArgs s_law_tiers) (defBody s_law_tiers) (defScope s_law_tiers) .none kV27 dc27 pm27 an27 cd27 ct27), sl27⟩) (c27 : PySem.W.codeIn K cd27 "_law_tiers" = true) (k27 : PySem.W.keepIn K (.ref f27) = true)
    (a28 : PySem.W.nsIn K mainGlobals "_law_shop" = some (some (.ref f28))) (l28 : K.lookup f28 = some ⟨oc28, od28, .func (PySem.W.fnOf "_law_shop" "_law_shop" (defArgs s_law_shop) (defBody s_law_shop) (defScope s_law_shop) .none kV28 dc28 pm28 an28 cd28 ct28), sl28⟩) (c28 : PySem.W.codeIn K cd28 "_law_shop" = true) (k28 : PySem.W.keepIn K (.ref f28) = true)
    (a29 : PySem.W.nsIn K mainGlobals "_law_copied" = some (some (.ref f29))) (l29 : K.lookup f29 = some ⟨oc29, od29, .func (PySem.W.fnOf "_law_copied" "_law_copied" (defArgs s_law_copied) (defBody s_law_copied) (defScope s_law_copied) .none kV29 dc29 pm29 an29 cd29 ct29), sl29⟩) (c29 : PySem.W.codeIn K cd29 "_law_copied" = true) (k29 : PySem.W.keepIn K (.ref f29) = true)
    (a30 : PySem.W.nsIn K mainGlobals "_law_names" = some (some (.ref f30))) (l30 : K.lookup f30 = some ⟨oc30, od30, .func (PySem.W.fnOf "_law_names" "_law_names" (defArgs s_law_names) (defBody s_law_names) (defScope s_law_names) .none kV30 dc30 pm30 an30 cd30 ct30), sl30⟩) (c30 : PySem.W.codeIn K cd30 "_law_names" = true) (k30 : PySem.W.keepIn K (.ref f30) = true)
    (a31 : PySem.W.nsIn K mainGlobals "_law_content_text" = some (some (.ref f31))) (l31 : K.lookup f31 = some ⟨oc31, od31, .func (PySem.W.fnOf "_law_content_text" "_law_content_text" (defArgs s_law_content_text) (defBody s_law_content_text) (defScope s_law_content_text) .none kV31 dc31 pm31 an31 cd31 ct31), sl31⟩) (c31 : PySem.W.codeIn K cd31 "_law_content_text" = true) (k31 : PySem.W.keepIn K (.ref f31) = true)
    (a32 : PySem.W.nsIn K mainGlobals "_law_offer_text" = some (some (.ref f32))) (l32 : K.lookup f32 = some ⟨oc32, od32, .func (PySem.W.fnOf "_law_offer_text" "_law_offer_text" (defArgs s_law_offer_text) (defBody s_law_offer_text) (defScope s_law_offer_text) .none kV32 dc32 pm32 an32 cd32 ct32), sl32⟩) (c32 : PySem.W.codeIn K cd32 "_law_offer_text" = true) (k32 : PySem.W.keepIn K (.ref f32) = true)
    (a33 : PySem.W.nsIn K mainGlobals "_law_right" = some (some (.ref f33))) (l33 : K.lookup f33 = some ⟨oc33, od33, .func (PySem.W.fnOf "_law_right" "_law_right" (defArgs s_law_right) (defBody s_law_right) (defScope s_law_right) .none kV33 dc33 pm33 an33 cd33 ct33), sl33⟩) (c33 : PySem.W.codeIn K cd33 "_law_right" = true) (k33 : PySem.W.keepIn K (.ref f33) = true)
    (lc3 : K.lookup cT3 = some ⟨eT3, dT3, .fields vT3, sT3⟩) (hv3 : vT3[11]? = some (.ref PT3)) (nt3 : (K.lookup PT3).isNone = true) (rc3 : ((recsOf q).find? fun e => e.name == ("good_tiers" : Str)).isSome = true)
    (lc9 : K.lookup cT9 = some ⟨eT9, dT9, .fields vT9, sT9⟩) (hv9 : vT9[11]? = some (.ref PT9)) (nt9 : (K.lookup PT9).isNone = true) (rc9 : ((recsOf q).find? fun e => e.name == ("made_of" : Str)).isSome = true)
    (z1 : PySem.W.nsIn K mainGlobals "len" = some none)
    (z2 : PySem.W.nsIn K mainGlobals "range" = some none)
    (z3 : PySem.W.nsIn K mainGlobals "max" = some none)
    (z4 : PySem.W.nsIn K mainGlobals "list" = some none)
    (z5 : PySem.W.nsIn K mainGlobals "isinstance" = some none)
    (z6 : PySem.W.nsIn K mainGlobals "int" = some none)
    (z7 : PySem.W.nsIn K mainGlobals "bool" = some none)
    (z8 : PySem.W.nsIn K mainGlobals "enumerate" = some none)
    (z9 : PySem.W.nsIn K mainGlobals "all" = some none)
    (z10 : PySem.W.nsIn K mainGlobals "zip" = some none)
    (z11 : PySem.W.nsIn K mainGlobals "reversed" = some none)
    (z12 : PySem.W.nsIn K mainGlobals "sum" = some none)
    (z13 : PySem.W.nsIn K mainGlobals "sorted" = some none)
    (z14 : PySem.W.nsIn K mainGlobals "tuple" = some none)
    (z15 : PySem.W.nsIn K mainGlobals "any" = some none)
    (z16 : PySem.W.nsIn K mainGlobals "min" = some none)
    (z17 : PySem.W.nsIn K mainGlobals "str" = some none)
    (z18 : PySem.W.nsIn K mainGlobals "abs" = some none)
    (z19 : PySem.W.nsIn K mainGlobals "set" = some none)
    {tk1 : Tok} (q1 : PySem.W.nsIn K mainGlobals "MOST_TIERS" = some (some (.int 4 tk1)))
    {tk2 : Tok} (q2 : PySem.W.nsIn K mainGlobals "MOST_PIECES" = some (some (.int 12 tk2)))
    {tk3 : Tok} (q3 : PySem.W.nsIn K mainGlobals "FIGURES" = some (some (.str "0123456789" tk3)))
    {tk4 : Tok} (q4 : PySem.W.nsIn K mainGlobals "MOST_LESSER" = some (some (.int 400 tk4)))
    {tk5 : Tok} (q5 : PySem.W.nsIn K mainGlobals "THING_FIGURES" = some (some (.int 1 tk5)))
    {tk6 : Tok} (q6 : PySem.W.nsIn K mainGlobals "PLACE_FIGURES" = some (some (.int 2 tk6)))
    {tk7 : Tok} (q7 : PySem.W.nsIn K mainGlobals "PRICE_FIGURES" = some (some (.int 12 tk7)))
    : LawAtG l w K 10 63 "_law_script" mg fa h := by
  have e := hfa.symm.trans (PySem.W.mg_of X G a1)
  cases e
  have F1 := fun_mk (st := s_law) l1 c1 k1
  have b1 := F1.binds (ps := ["_law_script"]) fun _ _ _ _ _ _ us hl => match us, hl with | [_], _ => rfl
  have F2 := fun_mk (st := s_names_pack) l2 c2 k2
  have b2 := F2.binds (ps := ["shop", "at"]) fun _ _ _ _ _ _ us hl => match us, hl with | [_, _], _ => rfl
  have F3 := fun_mk (st := s_good_tiers) l3 c3 k3
  have b3 := F3.binds (ps := ["tiers"]) fun _ _ _ _ _ _ us hl => match us, hl with | [_], _ => rfl
  have F4 := fun_mk (st := s_can_stand) l4 c4 k4
  have b4 := F4.binds (ps := ["shop", "at"]) fun _ _ _ _ _ _ us hl => match us, hl with | [_, _], _ => rfl
  have F5 := fun_mk (st := s_look) l5 c5 k5
  have b5 := F5.binds (ps := ["shop"]) fun _ _ _ _ _ _ us hl => match us, hl with | [_], _ => rfl
  have F6 := fun_mk (st := s_show_content) l6 c6 k6
  have b6 := F6.binds (ps := ["names", "content"]) fun _ _ _ _ _ _ us hl => match us, hl with | [_, _], _ => rfl
  have F7 := fun_mk (st := s_show_offer) l7 c7 k7
  have b7 := F7.binds (ps := ["names", "offer"]) fun _ _ _ _ _ _ us hl => match us, hl with | [_, _], _ => rfl
  have F8 := fun_mk (st := s_show_shop) l8 c8 k8
  have b8 := F8.binds (ps := ["names", "shop"]) fun _ _ _ _ _ _ us hl => match us, hl with | [_, _], _ => rfl
  have F9 := fun_mk (st := s_made_of) l9 c9 k9
  have b9 := F9.binds (ps := ["signs", "text", "most"]) fun _ _ _ _ _ _ us hl => match us, hl with | [_, _, _], _ => rfl
  have F10 := fun_mk (st := s_read_number) l10 c10 k10
  have b10 := F10.binds (ps := ["text", "figures"]) fun _ _ _ _ _ _ us hl => match us, hl with | [_, _], _ => rfl
  have F11 := fun_mk (st := s_within_bounds) l11 c11 k11
  have b11 := F11.binds (ps := ["content"]) fun _ _ _ _ _ _ us hl => match us, hl with | [_], _ => rfl
  have F12 := fun_mk (st := s_read_thing) l12 c12 k12
  have b12 := F12.binds (ps := ["names", "text"]) fun _ _ _ _ _ _ us hl => match us, hl with | [_, _], _ => rfl
  have F13 := fun_mk (st := s_read_content) l13 c13 k13
  have b13 := F13.binds (ps := ["names", "text"]) fun _ _ _ _ _ _ us hl => match us, hl with | [_, _], _ => rfl
  have F14 := fun_mk (st := s_read_goods) l14 c14 k14
  have b14 := F14.binds (ps := ["names", "text"]) fun _ _ _ _ _ _ us hl => match us, hl with | [_, _], _ => rfl
  have F15 := fun_mk (st := s_read_sold) l15 c15 k15
  have b15 := F15.binds (ps := ["names", "text"]) fun _ _ _ _ _ _ us hl => match us, hl with | [_, _], _ => rfl
  have F16 := fun_mk (st := s_read_tier) l16 c16 k16
  have b16 := F16.binds (ps := ["text"]) fun _ _ _ _ _ _ us hl => match us, hl with | [_], _ => rfl
  have F17 := fun_mk (st := s_read_many) l17 c17 k17
  have b17 := F17.binds (ps := ["names", "text"]) fun _ _ _ _ _ _ us hl => match us, hl with | [_, _], _ => rfl
  have F18 := fun_mk (st := s_read_add) l18 c18 k18
  have b18 := F18.binds (ps := ["names", "text"]) fun _ _ _ _ _ _ us hl => match us, hl with | [_, _], _ => rfl
  have F19 := fun_mk (st := s_read_offer) l19 c19 k19
  have b19 := F19.binds (ps := ["names", "text"]) fun _ _ _ _ _ _ us hl => match us, hl with | [_, _], _ => rfl
  have F20 := fun_mk (st := s_read_shop) l20 c20 k20
  have b20 := F20.binds (ps := ["names", "rows"]) fun _ _ _ _ _ _ us hl => match us, hl with | [_, _], _ => rfl
  have F21 := fun_mk (st := s_law_draws) l21 c21 k21
  have b21 := F21.binds (ps := ["_law_script", "_law_turn", "_law_many"]) fun _ _ _ _ _ _ us hl => match us, hl with | [_, _, _], _ => rfl
  have F22 := fun_mk (st := s_law_pop) l22 c22 k22
  have b22 := F22.binds (ps := ["_law_draws_here"]) fun _ _ _ _ _ _ us hl => match us, hl with | [_], _ => rfl
  have F23 := fun_mk (st := s_law_want) l23 c23 k23
  have b23 := F23.binds (ps := ["_law_draws_here", "_law_many"]) fun _ _ _ _ _ _ us hl => match us, hl with | [_, _], _ => rfl
  have F24 := fun_mk (st := s_law_cases) l24 c24 k24
  have b24 := F24.binds (ps := ["_law_want_here"]) fun _ _ _ _ _ _ us hl => match us, hl with | [_], _ => rfl
  have F25 := fun_mk (st := s_law_content) l25 c25 k25
  have b25 := F25.binds (ps := ["_law_draws_here", "_law_many"]) fun _ _ _ _ _ _ us hl => match us, hl with | [_, _], _ => rfl
  have F26 := fun_mk (st := s_law_price) l26 c26 k26
  have b26 := F26.binds (ps := ["_law_draws_here"]) fun _ _ _ _ _ _ us hl => match us, hl with | [_], _ => rfl
  have F27 := fun_mk (st := s_law_tiers) l27 c27 k27
  have b27 := F27.binds (ps := ["_law_draws_here"]) fun _ _ _ _ _ _ us hl => match us, hl with | [_], _ => rfl
  have F28 := fun_mk (st := s_law_shop) l28 c28 k28
  have b28 := F28.binds (ps := ["_law_draws_here", "_law_many", "_law_most"]) fun _ _ _ _ _ _ us hl => match us, hl with | [_, _, _], _ => rfl
  have F29 := fun_mk (st := s_law_copied) l29 c29 k29
  have b29 := F29.binds (ps := ["_law_shop_here"]) fun _ _ _ _ _ _ us hl => match us, hl with | [_], _ => rfl
  have F30 := fun_mk (st := s_law_names) l30 c30 k30
  have b30 := F30.binds (ps := ["_law_draws_here", "_law_many"]) fun _ _ _ _ _ _ us hl => match us, hl with | [_, _], _ => rfl
  have F31 := fun_mk (st := s_law_content_text) l31 c31 k31
  have b31 := F31.binds (ps := ["_law_names_here", "_law_content_here"]) fun _ _ _ _ _ _ us hl => match us, hl with | [_, _], _ => rfl
  have F32 := fun_mk (st := s_law_offer_text) l32 c32 k32
  have b32 := F32.binds (ps := ["_law_names_here", "_law_offer"]) fun _ _ _ _ _ _ us hl => match us, hl with | [_, _], _ => rfl
  have F33 := fun_mk (st := s_law_right) l33 c33 k33
  have b33 := F33.binds (ps := ["_law_found", "_law_shop_here"]) fun _ _ _ _ _ _ us hl => match us, hl with | [_, _], _ => rfl
  have M : Names mg := ⟨PySem.W.mg_none_of X G z1, PySem.W.mg_none_of X G z2, PySem.W.mg_none_of X G z3, PySem.W.mg_none_of X G z4, PySem.W.mg_none_of X G z5, PySem.W.mg_none_of X G z6, PySem.W.mg_none_of X G z7, PySem.W.mg_none_of X G z8, PySem.W.mg_none_of X G z9, PySem.W.mg_none_of X G z10, PySem.W.mg_none_of X G z11, PySem.W.mg_none_of X G z12, PySem.W.mg_none_of X G z13, PySem.W.mg_none_of X G z14, PySem.W.mg_none_of X G z15, PySem.W.mg_none_of X G z16, PySem.W.mg_none_of X G z17, PySem.W.mg_none_of X G z18, PySem.W.mg_none_of X G z19, ⟨_, PySem.W.mg_of X G q1⟩, ⟨_, PySem.W.mg_of X G q2⟩, ⟨_, PySem.W.mg_of X G q3⟩, ⟨_, PySem.W.mg_of X G q4⟩, ⟨_, PySem.W.mg_of X G q5⟩, ⟨_, PySem.W.mg_of X G q6⟩, ⟨_, PySem.W.mg_of X G q7⟩⟩
  obtain ⟨hd3, ht3⟩ := tabs "good_tiers" cT3 PT3 rc3 (tabIn_of a3 l3 rfl lc3 hv3)
  obtain ⟨hd9, ht9⟩ := tabs "made_of" cT9 PT9 rc9 (tabIn_of a9 l9 rfl lc9 hv9)
  refine ⟨PySem.W.fnOf "law" "law" (defArgs s_law) (defBody s_law) (defScope s_law) .none kV1 dc1 pm1 an1 cd1 ct1, [(cT3, PT3), (cT9, PT9)], sp_law K PT3 PT9, ?hT, ?nT, ?hC, fun s v => .of_eq rfl, fun H a ns hl hT hS => ⟨a, ns, rfl, hS, hl, ⟨#[], hT (cT3, PT3) List.mem_cons_self, True.intro⟩, ⟨#[], hT (cT9, PT9) (List.mem_cons_of_mem _ List.mem_cons_self), True.intro⟩, fun _ => rfl⟩, fun base _ _ hB => ?_⟩
  case hT =>
    exact fun p hp => by
      rcases List.mem_cons.mp hp with rfl | hp
      · exact ht3
      rcases List.mem_cons.mp hp with rfl | hp
      · exact ht9
      cases hp
  case nT =>
    exact fun p hp => by
      rcases List.mem_cons.mp hp with rfl | hp
      · exact Option.isNone_iff_eq_none.mp nt3
      rcases List.mem_cons.mp hp with rfl | hp
      · exact Option.isNone_iff_eq_none.mp nt9
      cases hp
  case hC =>
    exact fun p hp => by
      rcases List.mem_cons.mp hp with rfl | hp
      · exact hd3
      rcases List.mem_cons.mp hp with rfl | hp
      · exact hd9
      cases hp
  have T3 := hB (cT3, PT3) List.mem_cons_self
  have T9 := hB (cT9, PT9) (List.mem_cons_of_mem _ List.mem_cons_self)
  exact ok_law M ⟨F1, PySem.W.mg_of X G a1, b1⟩ ⟨F2, PySem.W.mg_of X G a2, b2⟩ ⟨F3, PySem.W.mg_of X G a3, b3⟩ ⟨F4, PySem.W.mg_of X G a4, b4⟩ ⟨F5, PySem.W.mg_of X G a5, b5⟩ ⟨F6, PySem.W.mg_of X G a6, b6⟩ ⟨F7, PySem.W.mg_of X G a7, b7⟩ ⟨F8, PySem.W.mg_of X G a8, b8⟩ ⟨F9, PySem.W.mg_of X G a9, b9⟩ ⟨F10, PySem.W.mg_of X G a10, b10⟩ ⟨F11, PySem.W.mg_of X G a11, b11⟩ ⟨F12, PySem.W.mg_of X G a12, b12⟩ ⟨F13, PySem.W.mg_of X G a13, b13⟩ ⟨F14, PySem.W.mg_of X G a14, b14⟩ ⟨F15, PySem.W.mg_of X G a15, b15⟩ ⟨F16, PySem.W.mg_of X G a16, b16⟩ ⟨F17, PySem.W.mg_of X G a17, b17⟩ ⟨F18, PySem.W.mg_of X G a18, b18⟩ ⟨F19, PySem.W.mg_of X G a19, b19⟩ ⟨F20, PySem.W.mg_of X G a20, b20⟩ ⟨F21, PySem.W.mg_of X G a21, b21⟩ ⟨F22, PySem.W.mg_of X G a22, b22⟩ ⟨F23, PySem.W.mg_of X G a23, b23⟩ ⟨F24, PySem.W.mg_of X G a24, b24⟩ ⟨F25, PySem.W.mg_of X G a25, b25⟩ ⟨F26, PySem.W.mg_of X G a26, b26⟩ ⟨F27, PySem.W.mg_of X G a27, b27⟩ ⟨F28, PySem.W.mg_of X G a28, b28⟩ ⟨F29, PySem.W.mg_of X G a29, b29⟩ ⟨F30, PySem.W.mg_of X G a30, b30⟩ ⟨F31, PySem.W.mg_of X G a31, b31⟩ ⟨F32, PySem.W.mg_of X G a32, b32⟩ ⟨F33, PySem.W.mg_of X G a33, b33⟩ rfl ⟨T3.code, T3.bm, T3.gP⟩ rfl ⟨T9.code, T9.bm, T9.gP⟩
end Pk
open PySem PySem.W PyProof.Rows
set_option maxHeartbeats 0 in
theorem PySem.Challenge.cw_packwants_k37_shops_as_texts_holds : PySem.Challenge.rw_packwants_k37_shops_as_texts.Holds := by
  w_on; o_law; k_head; (case hw => w_witness2)
  k_fill
  refine Pk.walk_ofH (l := PySem.Challenge.rw_packwants_k37_shops_as_texts) (n := 63) (k := 10) (x := "_law_script") rfl (by decide) rfl ⟨rfl, by decide, by decide⟩ (fun w h Y => PySem.W.kIn_of Y) ?F
  case F =>
    intro w mg fa h KX G hmg tabs
    refine' Pk.all_mk KX G hmg tabs ?a1 ?l1 ?c1 ?k1 ?a2 ?l2 ?c2 ?k2 ?a3 ?l3 ?c3 ?k3 ?a4 ?l4 ?c4 ?k4 ?a5 ?l5 ?c5 ?k5 ?a6 ?l6 ?c6 ?k6 ?a7 ?l7 ?c7 ?k7 ?a8 ?l8 ?c8 ?k8 ?a9 ?l9 ?c9 ?k9 ?a10 ?l10 ?c10 ?k10 ?a11 ?l11 ?c11 ?k11 ?a12 ?l12 ?c12 ?k12 ?a13 ?l13 ?c13 ?k13 ?a14 ?l14 ?c14 ?k14 ?a15 ?l15 ?c15 ?k15 ?a16 ?l16 ?c16 ?k16 ?a17 ?l17 ?c17 ?k17 ?a18 ?l18 ?c18 ?k18 ?a19 ?l19 ?c19 ?k19 ?a20 ?l20 ?c20 ?k20 ?a21 ?l21 ?c21 ?k21 ?a22 ?l22 ?c22 ?k22 ?a23 ?l23 ?c23 ?k23 ?a24 ?l24 ?c24 ?k24 ?a25 ?l25 ?c25 ?k25 ?a26 ?l26 ?c26 ?k26 ?a27 ?l27 ?c27 ?k27 ?a28 ?l28 ?c28 ?k28 ?a29 ?l29 ?c29 ?k29 ?a30 ?l30 ?c30 ?k30 ?a31 ?l31 ?c31 ?k31 ?a32 ?l32 ?c32 ?k32 ?a33 ?l33 ?c33 ?k33 ?lc3 ?hv3 ?nt3 ?rc3 ?lc9 ?hv9 ?nt9 ?rc9 ?z1 ?z2 ?z3 ?z4 ?z5 ?z6 ?z7 ?z8 ?z9 ?z10 ?z11 ?z12 ?z13 ?z14 ?z15 ?z16 ?z17 ?z18 ?z19 ?q1 ?q2 ?q3 ?q4 ?q5 ?q6 ?q7
    (case a1 => k_is); (case l1 => k_is); (case c1 => k_is); (case k1 => k_is); (case a2 => k_is); (case l2 => k_is); (case c2 => k_is); (case k2 => k_is); (case a3 => k_is); (case l3 => k_is); (case c3 => k_is); (case k3 => k_is); (case a4 => k_is); (case l4 => k_is); (case c4 => k_is); (case k4 => k_is); (case a5 => k_is); (case l5 => k_is); (case c5 => k_is); (case k5 => k_is); (case a6 => k_is); (case l6 => k_is); (case c6 => k_is); (case k6 => k_is); (case a7 => k_is); (case l7 => k_is); (case c7 => k_is); (case k7 => k_is); (case a8 => k_is); (case l8 => k_is); (case c8 => k_is); (case k8 => k_is); (case a9 => k_is); (case l9 => k_is); (case c9 => k_is); (case k9 => k_is); (case a10 => k_is); (case l10 => k_is); (case c10 => k_is); (case k10 => k_is); (case a11 => k_is); (case l11 => k_is); (case c11 => k_is); (case k11 => k_is); (case a12 => k_is); (case l12 => k_is); (case c12 => k_is); (case k12 => k_is); (case a13 => k_is); (case l13 => k_is); (case c13 => k_is); (case k13 => k_is); (case a14 => k_is); (case l14 => k_is); (case c14 => k_is); (case k14 => k_is); (case a15 => k_is); (case l15 => k_is); (case c15 => k_is); (case k15 => k_is); (case a16 => k_is); (case l16 => k_is); (case c16 => k_is); (case k16 => k_is); (case a17 => k_is); (case l17 => k_is); (case c17 => k_is); (case k17 => k_is); (case a18 => k_is); (case l18 => k_is); (case c18 => k_is); (case k18 => k_is); (case a19 => k_is); (case l19 => k_is); (case c19 => k_is); (case k19 => k_is); (case a20 => k_is); (case l20 => k_is); (case c20 => k_is); (case k20 => k_is); (case a21 => k_is); (case l21 => k_is); (case c21 => k_is); (case k21 => k_is); (case a22 => k_is); (case l22 => k_is); (case c22 => k_is); (case k22 => k_is); (case a23 => k_is); (case l23 => k_is); (case c23 => k_is); (case k23 => k_is); (case a24 => k_is); (case l24 => k_is); (case c24 => k_is); (case k24 => k_is); (case a25 => k_is); (case l25 => k_is); (case c25 => k_is); (case k25 => k_is); (case a26 => k_is); (case l26 => k_is); (case c26 => k_is); (case k26 => k_is); (case a27 => k_is); (case l27 => k_is); (case c27 => k_is); (case k27 => k_is); (case a28 => k_is); (case l28 => k_is); (case c28 => k_is); (case k28 => k_is); (case a29 => k_is); (case l29 => k_is); (case c29 => k_is); (case k29 => k_is); (case a30 => k_is); (case l30 => k_is); (case c30 => k_is); (case k30 => k_is); (case a31 => k_is); (case l31 => k_is); (case c31 => k_is); (case k31 => k_is); (case a32 => k_is); (case l32 => k_is); (case c32 => k_is); (case k32 => k_is); (case a33 => k_is); (case l33 => k_is); (case c33 => k_is); (case k33 => k_is); (case lc3 => k_is); (case hv3 => rfl); (case nt3 => rfl); (case rc3 => rfl); (case lc9 => k_is); (case hv9 => rfl); (case nt9 => rfl); (case rc9 => rfl); (case z1 => k_is); (case z2 => k_is); (case z3 => k_is); (case z4 => k_is); (case z5 => k_is); (case z6 => k_is); (case z7 => k_is); (case z8 => k_is); (case z9 => k_is); (case z10 => k_is); (case z11 => k_is); (case z12 => k_is); (case z13 => k_is); (case z14 => k_is); (case z15 => k_is); (case z16 => k_is); (case z17 => k_is); (case z18 => k_is); (case z19 => k_is); (case q1 => k_is); (case q2 => k_is); (case q3 => k_is); (case q4 => k_is); (case q5 => k_is); (case q6 => k_is); (case q7 => k_is)
